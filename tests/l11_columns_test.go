package tests

import (
	"slices"
	"testing"

	"loop.example/g00864/impl"
)

const maxOperators = 500

func twoLevel(kind int, i int, j int, m int) impl.TwoLevel {
	return impl.TwoLevel{Kind: kind, I: i, J: j, M: m}
}

func turnOf(row int, power int) impl.TwoLevel { return twoLevel(impl.TlW, row, 0, power) }

func exchangeOf(i int, j int) impl.TwoLevel { return twoLevel(impl.TlX, i, j, 0) }

func mixOf(i int, j int, power int) impl.TwoLevel { return twoLevel(impl.TlH, i, j, power) }

// twoLevelDims are the dimensions that operators have.
func twoLevelDims() []int { return []int{2, 4, 8} }

// allOperators returns the operators of a dimension that change rows from the first one on.
func allOperators(n int, first int) []impl.TwoLevel {
	var list []impl.TwoLevel
	for i := first; i < n; i++ {
		for power := 1; power <= 7; power++ {
			list = append(list, turnOf(i, power))
		}
		for j := i + 1; j < n; j++ {
			list = append(list, exchangeOf(i, j))
			for power := range 8 {
				list = append(list, mixOf(i, j, power))
			}
		}
	}
	return list
}

func checkOperators(t *testing.T, what string, got []impl.TwoLevel, ok bool, want ...impl.TwoLevel) {
	t.Helper()
	if !ok || !slices.Equal(got, want) {
		t.Errorf("%s: got %v, %v, want %v", what, got, ok, want)
	}
}

func checkNoOperators(t *testing.T, what string, got []impl.TwoLevel, ok bool) {
	t.Helper()
	if ok || len(got) != 0 {
		t.Errorf("%s: got %v, %v, want failure", what, got, ok)
	}
}

// vector has one column.
func vector(cells ...impl.Dyadic) impl.Matrix { return matrix(len(cells), 1, cells...) }

// basis has 1 in one row.
func basis(n int, row int) impl.Matrix {
	v := filled(n, 1, whole(0))
	v.Cells[row] = whole(1)
	return v
}

// multiplied multiplies by the operators' matrices from the left, in order.
func multiplied(t *testing.T, m impl.Matrix, list []impl.TwoLevel) impl.Matrix {
	t.Helper()
	get := mustMatrix(t)
	for _, o := range list {
		m = get(impl.MulMatrix(get(impl.TwoLevelMatrix(m.Rows, o)), m))
	}
	return m
}

// changedBy changes the rows of a matrix by operators in no particular order, which leave the rows before the first one alone.
func changedBy(t *testing.T, m impl.Matrix, first int, count int, seed int) impl.Matrix {
	t.Helper()
	d, table, list := dice(seed), tableOf(m), allOperators(m.Rows, first)
	for range count {
		table = table.after(list[d.below(len(list))])
	}
	return mustMatrix(t)(table.matrix())
}

func TestTwoLevelConstants(t *testing.T) {
	if impl.MaxOperators != maxOperators || impl.TlW != 1 || impl.TlX != 2 || impl.TlH != 3 {
		t.Error("the constants are", impl.MaxOperators, impl.TlW, impl.TlX, impl.TlH)
	}
}

func TestColumnsExample(t *testing.T) {
	m, ok := impl.TwoLevelMatrix(2, mixOf(0, 1, 0))
	checkMatrix(t, "TwoLevelMatrix", m, ok, hadamard())
	for want, x := range []impl.Ring{ring(1, 0, 1, 0), ring(1, 0, 0, 0), ring(1, 1, 0, 0)} {
		kind, ok := impl.ResidueType(x)
		checkNumber(t, "ResidueType", kind, ok, want)
	}
	power, ok := impl.MatchingPower(ring(1, 0, 0, 0), ring(0, 1, 0, 0))
	checkNumber(t, "MatchingPower", power, ok, 3)
	list, ok := impl.ReduceColumn(vector(rootHalf, rootHalf), 0)
	checkOperators(t, "ReduceColumn", list, ok, mixOf(0, 1, 0))
	list, ok = impl.DecomposeMatrix(kindMatrix(impl.GtT))
	checkOperators(t, "DecomposeMatrix", list, ok, turnOf(1, 1))
}

func TestTwoLevelMatrixInFull(t *testing.T) {
	h, minus := rootHalf, dyadic(ring(-1, 0, 0, 0), 1)
	one, zero := whole(1), whole(0)
	hi, minusHi := dyadic(ring(0, 0, 1, 0), 1), dyadic(ring(0, 0, -1, 0), 1)
	cases := []struct {
		o    impl.TwoLevel
		want impl.Matrix
	}{
		{turnOf(0, 1), phases(1, 0)}, {turnOf(1, 1), phases(0, 1)}, {turnOf(1, 7), phases(0, 7)}, {turnOf(0, 4), phases(4, 0)},
		{turnOf(2, 3), phases(0, 0, 3, 0)}, {turnOf(3, 6), phases(0, 0, 0, 6)}, {turnOf(5, 2), phases(0, 0, 0, 0, 0, 2, 0, 0)},
		{exchangeOf(0, 1), permutation(1, 0)}, {exchangeOf(1, 3), permutation(0, 3, 2, 1)}, {exchangeOf(0, 3), permutation(3, 1, 2, 0)}, {exchangeOf(2, 7), permutation(0, 1, 7, 3, 4, 5, 6, 2)},
		{mixOf(0, 1, 0), matrix(2, 2, h, h, h, minus)}, {mixOf(0, 1, 1), halfPowers(0, 1, 0, 5)}, {mixOf(0, 1, 3), halfPowers(0, 3, 0, 7)}, {mixOf(0, 1, 4), halfPowers(0, 4, 0, 0)}, {mixOf(0, 1, 7), halfPowers(0, 7, 0, 3)},
		{mixOf(1, 3, 0), matrix(4, 4, one, zero, zero, zero, zero, h, zero, h, zero, zero, one, zero, zero, h, zero, minus)},
		{mixOf(0, 2, 2), matrix(4, 4, h, zero, hi, zero, zero, one, zero, zero, h, zero, minusHi, zero, zero, zero, zero, one)},
	}
	for _, c := range cases {
		got, ok := impl.TwoLevelMatrix(c.want.Rows, c.o)
		checkMatrix(t, "TwoLevelMatrix", got, ok, c.want)
	}
}

// TestTwoLevelMatrixChangesRows has every operator, and compares its products with rows that are changed one by one.
func TestTwoLevelMatrixChangesRows(t *testing.T) {
	for _, n := range twoLevelDims() {
		list := []impl.Matrix{identity(n), sampleMatrix(n, 1, 5, 3), sampleMatrix(n, 2, 9, 2), filled(n, 4, whole(1))}
		for _, o := range allOperators(n, 0) {
			m, ok := impl.TwoLevelMatrix(n, o)
			want, _ := tableOf(identity(n)).after(o).matrix()
			checkMatrix(t, "TwoLevelMatrix", m, ok, want)
			for _, other := range list {
				want, fine := tableOf(other).after(o).matrix()
				got, ok := impl.MulMatrix(m, other)
				compareMatrix(t, "an operator times a matrix", got, ok, want, fine)
			}
			is, ok := impl.IsUnitary(m)
			checkAnswer(t, "IsUnitary of an operator", is, ok, true, true)
		}
	}
}

func TestInverseTwoLevelInFull(t *testing.T) {
	cases := map[impl.TwoLevel][]impl.TwoLevel{
		turnOf(0, 1): {turnOf(0, 7)}, turnOf(1, 4): {turnOf(1, 4)}, turnOf(1, 7): {turnOf(1, 1)}, turnOf(0, 3): {turnOf(0, 5)},
		exchangeOf(0, 1): {exchangeOf(0, 1)}, mixOf(0, 1, 0): {mixOf(0, 1, 0)},
		mixOf(0, 1, 1): {turnOf(1, 7), mixOf(0, 1, 0)}, mixOf(0, 1, 4): {turnOf(1, 4), mixOf(0, 1, 0)}, mixOf(0, 1, 7): {turnOf(1, 1), mixOf(0, 1, 0)},
	}
	for o, want := range cases {
		for _, n := range twoLevelDims() {
			got, ok := impl.InverseTwoLevel(n, o)
			checkOperators(t, "InverseTwoLevel", got, ok, want...)
		}
	}
	got, ok := impl.InverseTwoLevel(8, mixOf(2, 6, 3))
	checkOperators(t, "InverseTwoLevel", got, ok, turnOf(6, 5), mixOf(2, 6, 0))
	got, ok = impl.InverseTwoLevel(4, exchangeOf(1, 3))
	checkOperators(t, "InverseTwoLevel", got, ok, exchangeOf(1, 3))
}

// TestInverseTwoLevelUndoes has every operator, before and behind its inverse.
func TestInverseTwoLevelUndoes(t *testing.T) {
	get := mustMatrix(t)
	for _, n := range twoLevelDims() {
		for _, o := range allOperators(n, 0) {
			inverse, ok := impl.InverseTwoLevel(n, o)
			checkOperators(t, "InverseTwoLevel", inverse, ok, plainInverse(o)...)
			m, product := get(impl.TwoLevelMatrix(n, o)), identity(n)
			for _, other := range inverse {
				product = get(impl.MulMatrix(product, get(impl.TwoLevelMatrix(n, other))))
			}
			checkMatrixLaw(t, "an operator before its inverse", get(impl.MulMatrix(m, product)), identity(n))
			checkMatrixLaw(t, "an operator behind its inverse", get(impl.MulMatrix(product, m)), identity(n))
			before, ok := impl.ComposeTwoLevel(n, append([]impl.TwoLevel{o}, inverse...))
			checkMatrix(t, "ComposeTwoLevel before the inverse", before, ok, identity(n))
			behind, ok := impl.ComposeTwoLevel(n, append(slices.Clone(inverse), o))
			checkMatrix(t, "ComposeTwoLevel behind the inverse", behind, ok, identity(n))
		}
	}
}
