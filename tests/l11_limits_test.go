package tests

import (
	"math"
	"slices"
	"testing"

	"loop.example/g00864/impl"
)

// otherDimensions are not those of two-level operators.
func otherDimensions() []int {
	return append([]int{0, 1, 3, 5, 6, 7, 9, 12, 15, 16, 17, 32, 64, -1, -2, -4, -8, 1<<32 + 2, 1<<32 + 4, 1<<32 + 8}, farInts()...)
}

// invalidOperators have another kind, a row or a power out of range, rows that are equal or exchanged, or a field that their kind does not use.
func invalidOperators(n int) []impl.TwoLevel {
	list := []impl.TwoLevel{
		{}, turnOf(0, 0), turnOf(n-1, 8), turnOf(0, -1), turnOf(n, 1), turnOf(-1, 1), twoLevel(impl.TlW, 0, 1, 1), twoLevel(impl.TlW, 1, n-1, 7), twoLevel(impl.TlW, 0, -1, 1), twoLevel(impl.TlW, 0, n, 1),
		exchangeOf(0, 0), exchangeOf(1, 0), exchangeOf(n-1, n-1), exchangeOf(n-1, 0), exchangeOf(0, n), exchangeOf(-1, 0), exchangeOf(-1, n-1), exchangeOf(n-1, n), exchangeOf(n, n+1), twoLevel(impl.TlX, 0, 1, 1), twoLevel(impl.TlX, 0, n-1, -1), twoLevel(impl.TlX, 0, 1, 8),
		mixOf(0, 0, 0), mixOf(1, 0, 0), mixOf(n-1, n-1, 3), mixOf(n-1, 0, 7), mixOf(0, n, 0), mixOf(-1, 0, 0), mixOf(n, 0, 0), mixOf(0, 1, 8), mixOf(0, 1, -1), mixOf(0, n-1, 9), mixOf(0, n-1, 16),
	}
	for _, kind := range append([]int{0, 4, -1, 5, -3}, farInts()...) {
		list = append(list, twoLevel(kind, 0, 1, 0), twoLevel(kind, 0, 0, 1), twoLevel(kind, 0, 1, 1))
	}
	for _, a := range farInts() {
		list = append(list, turnOf(a, 1), turnOf(0, a), twoLevel(impl.TlW, 0, a, 1), exchangeOf(a, 1), exchangeOf(0, a), twoLevel(impl.TlX, 0, 1, a), mixOf(a, 1, 0), mixOf(0, a, 0), mixOf(0, 1, a), exchangeOf(a, a+1), mixOf(a, a, a))
	}
	return list
}

func checkNotOperator(t *testing.T, n int, o impl.TwoLevel) {
	t.Helper()
	if impl.IsValidTwoLevel(n, o) {
		t.Error("valid:", n, o)
	}
	m, ok := impl.TwoLevelMatrix(n, o)
	checkNoMatrix(t, "TwoLevelMatrix", m, ok)
	list, ok := impl.InverseTwoLevel(n, o)
	checkNoOperators(t, "InverseTwoLevel", list, ok)
	checkNotComposed(t, n, []impl.TwoLevel{o})
}

func checkIsOperator(t *testing.T, n int, o impl.TwoLevel) {
	t.Helper()
	m, made := impl.TwoLevelMatrix(n, o)
	list, inverted := impl.InverseTwoLevel(n, o)
	if !impl.IsValidTwoLevel(n, o) || !made || !inverted || m.Rows != n || len(list) == 0 {
		t.Error("not valid:", n, o)
	}
	for _, other := range list {
		if !impl.IsValidTwoLevel(n, other) {
			t.Error("not valid in an inverse:", n, other)
		}
	}
}

// TestTwoLevelValidity has all small values of the fields in all dimensions.
func TestTwoLevelValidity(t *testing.T) {
	for _, n := range append(twoLevelDims(), 0, 1, 3, 16) {
		var valid []impl.TwoLevel
		if slices.Contains(twoLevelDims(), n) {
			valid = allOperators(n, 0)
		}
		count := 0
		for kind := -1; kind <= 4; kind++ {
			for i := -2; i <= 9; i++ {
				for j := -2; j <= 9; j++ {
					for m := -2; m <= 9; m++ {
						o := twoLevel(kind, i, j, m)
						if impl.IsValidTwoLevel(n, o) != slices.Contains(valid, o) {
							t.Error("the validity is wrong:", n, o)
						}
						if impl.IsValidTwoLevel(n, o) {
							count++
						}
					}
				}
			}
		}
		if want := map[int]int{2: 14 + 9, 4: 28 + 6*9, 8: 56 + 28*9}[n]; count != want {
			t.Error("the number of valid operators of dimension", n, "is", count)
		}
	}
}

func TestTwoLevelOperatorsThatAreValid(t *testing.T) {
	for _, n := range twoLevelDims() {
		for _, o := range allOperators(n, 0) {
			checkIsOperator(t, n, o)
			for _, other := range otherDimensions() {
				checkNotOperator(t, other, o)
			}
		}
	}
}

func TestTwoLevelOperatorsThatAreNotValid(t *testing.T) {
	for _, n := range twoLevelDims() {
		for _, o := range invalidOperators(n) {
			checkNotOperator(t, n, o)
		}
	}
	for _, n := range otherDimensions() {
		for _, o := range invalidOperators(8) {
			checkNotOperator(t, n, o)
		}
	}
	checkNotOperator(t, 2, turnOf(2, 1))
	checkNotOperator(t, 2, exchangeOf(1, 2))
	checkNotOperator(t, 4, mixOf(3, 4, 0))
	checkNotOperator(t, 4, mixOf(6, 7, 0))
}

// TestTwoLevelOfAnyInts has the least and greatest integers in every field and as the dimension.
func TestTwoLevelOfAnyInts(t *testing.T) {
	wild := []int{math.MinInt, math.MinInt + 1, -1 << 32, -1, 0, 1, 2, 3, 7, 8, 1 << 32, 1<<32 + 1, math.MaxInt - 1, math.MaxInt}
	for _, i := range wild {
		for _, j := range wild {
			for _, m := range wild {
				for _, kind := range wild {
					o := twoLevel(kind, i, j, m)
					for _, n := range twoLevelDims() {
						valid := slices.Contains(allOperators(n, 0), o)
						if impl.IsValidTwoLevel(n, o) != valid {
							t.Error("the validity is wrong:", n, o)
						}
					}
				}
				if o := twoLevel(1+(i&1)+(j&1), i, j, m); !slices.Contains(allOperators(8, 0), o) {
					checkNotOperator(t, 8, o)
				}
			}
			if i != 2 && i != 8 {
				checkNotOperator(t, i, turnOf(0, 1))
				checkNotComposed(t, i, nil)
			}
			if i != 2 || j != 1 {
				checkNotColumn(t, matrix(i, j, whole(1), whole(0)), 0)
			}
			checkNotDecomposed(t, matrix(i, j, whole(1), whole(0)))
		}
	}
}

// TestColumnsOfAnyInts has the least and greatest integers in the cells of vectors and matrices.
func TestColumnsOfAnyInts(t *testing.T) {
	wild := []int{math.MinInt, math.MinInt + 1, -maxCoef - 1, -maxCoef, -31623, -1, 0, 1, 2, 31, 60, 61, maxCoef, maxCoef + 1, 1 << 32, math.MaxInt - 1, math.MaxInt}
	for _, a := range wild {
		for _, b := range wild {
			for _, x := range []impl.Dyadic{dyadic(ring(a, b, 0, -b), 0), dyadic(ring(a, 0, b, 0), 1), dyadic(ring(1, a, 0, 0), b), dyadic(ring(a, a, a, a), b), dyadic(ring(0, a, 0, b), a)} {
				checkWildVector(t, vector(whole(0), x), 1)
				checkWildVector(t, vector(x, whole(0), rootHalf, whole(0)), 0)
				m := identity(4)
				m.Cells[5] = x
				if is, _ := impl.IsUnitary(m); is {
					checkDecomposed(t, m)
				} else {
					checkNotDecomposed(t, m)
				}
				is, ok := impl.CheckDecomposition(m, nil)
				checkAnswer(t, "CheckDecomposition", is, ok, x == whole(1), impl.IsValidDyadic(x))
			}
		}
		if a < 0 || a > 1 {
			checkNotColumn(t, basis(4, 1), a)
		}
	}
}

// checkWildVector has a vector that need not be valid.
func checkWildVector(t *testing.T, v impl.Matrix, from int) {
	t.Helper()
	if impl.IsValidMatrix(v) {
		checkAnyColumn(t, v, from)
	} else {
		checkNotColumn(t, v, from)
	}
}
