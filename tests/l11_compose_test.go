package tests

import (
	"math"
	"slices"
	"testing"

	"loop.example/g00864/impl"
)

// sampleOperators returns valid operators in no particular order.
func sampleOperators(n int, count int, seed int) []impl.TwoLevel {
	d, all := dice(seed), allOperators(n, 0)
	var list []impl.TwoLevel
	for range count {
		list = append(list, all[d.below(len(all))])
	}
	return list
}

// plainComposition changes the rows of the identity by the operators in reverse order, without limits.
func plainComposition(n int, list []impl.TwoLevel) (impl.Matrix, bool) {
	table := tableOf(identity(n))
	for _, o := range slices.Backward(list) {
		table = table.after(o)
	}
	return table.matrix()
}

func checkComposed(t *testing.T, n int, list []impl.TwoLevel) impl.Matrix {
	t.Helper()
	want, fine := plainComposition(n, list)
	got, ok := impl.ComposeTwoLevel(n, list)
	if !fine {
		t.Error("the product is not valid:", list)
	}
	checkMatrix(t, "ComposeTwoLevel", got, ok, want)
	is, ok := impl.CheckDecomposition(want, list)
	checkAnswer(t, "CheckDecomposition", is, ok, true, true)
	return want
}

func checkNotComposed(t *testing.T, n int, list []impl.TwoLevel) {
	t.Helper()
	got, ok := impl.ComposeTwoLevel(n, list)
	checkNoMatrix(t, "ComposeTwoLevel", got, ok)
	for _, m := range []impl.Matrix{identity(2), identity(4), identity(8), identity(1), identity(16), {}} {
		if m.Rows == n {
			is, ok := impl.CheckDecomposition(m, list)
			checkAnswer(t, "CheckDecomposition", is, ok, false, false)
		}
	}
}

func TestComposeTwoLevelInFull(t *testing.T) {
	cases := []struct {
		list []impl.TwoLevel
		want impl.Matrix
	}{
		{nil, identity(2)}, {nil, identity(4)}, {nil, identity(8)},
		{[]impl.TwoLevel{mixOf(0, 1, 0)}, hadamard()}, {[]impl.TwoLevel{mixOf(0, 1, 0), mixOf(0, 1, 0)}, identity(2)}, {[]impl.TwoLevel{turnOf(1, 1), turnOf(1, 1)}, kindMatrix(impl.GtS)},
		{[]impl.TwoLevel{mixOf(0, 1, 0), turnOf(1, 1)}, halfPowers(0, 1, 0, 5)}, {[]impl.TwoLevel{turnOf(1, 1), mixOf(0, 1, 0)}, halfPowers(0, 0, 1, 5)}, {[]impl.TwoLevel{mixOf(0, 1, 1)}, halfPowers(0, 1, 0, 5)},
		{[]impl.TwoLevel{exchangeOf(0, 1), turnOf(0, 1)}, matrix(2, 2, whole(0), whole(1), omega, whole(0))}, {[]impl.TwoLevel{turnOf(0, 1), exchangeOf(0, 1)}, matrix(2, 2, whole(0), omega, whole(1), whole(0))},
		{[]impl.TwoLevel{exchangeOf(0, 1), exchangeOf(1, 2), exchangeOf(2, 3)}, permutation(1, 2, 3, 0)}, {[]impl.TwoLevel{exchangeOf(2, 3), exchangeOf(1, 2), exchangeOf(0, 1)}, permutation(3, 0, 1, 2)},
	}
	for _, c := range cases {
		got, ok := impl.ComposeTwoLevel(c.want.Rows, c.list)
		checkMatrix(t, "ComposeTwoLevel", got, ok, c.want)
	}
}

func TestComposeTwoLevelReference(t *testing.T) {
	for _, n := range twoLevelDims() {
		for seed := range 20 {
			list := sampleOperators(n, seed, seed+n)
			m := checkComposed(t, n, list)
			is, ok := impl.IsUnitary(m)
			checkAnswer(t, "IsUnitary of a product", is, ok, true, true)
		}
		all := allOperators(n, 0)
		for k, first := range all {
			for l := range 4 {
				checkComposed(t, n, []impl.TwoLevel{first, all[(7*k+13*l+1)%len(all)]})
			}
		}
	}
}

// TestComposeTwoLevelOfMaxOperators has MaxOperators operators and one more.
func TestComposeTwoLevelOfMaxOperators(t *testing.T) {
	for _, n := range twoLevelDims() {
		for _, o := range []impl.TwoLevel{turnOf(n-1, 3), exchangeOf(0, n-1), mixOf(0, 1, 0), mixOf(0, n-1, 4)} {
			list := slices.Repeat([]impl.TwoLevel{o}, maxOperators+1)
			checkComposed(t, n, list[:maxOperators])
			checkComposed(t, n, list[:maxOperators-1])
			checkNotComposed(t, n, list)
			checkNotComposed(t, n, slices.Repeat(list[:1], 2*maxOperators))
		}
		list := []impl.TwoLevel{}
		for k := range maxOperators / 2 {
			list = append(list, turnOf(k%n, 1+k%7), turnOf(k%n, 7-k%7))
		}
		checkMatrixLaw(t, "a product of 500 powers of w", checkComposed(t, n, list), identity(n))
		checkNotComposed(t, n, append(list, turnOf(0, 1)))
		checkNotComposed(t, n, append([]impl.TwoLevel{exchangeOf(0, 1)}, list...))
	}
}

// growingList mixes the first row with the others, which makes the exponents of the product greater and greater.
func growingList(n int) []impl.TwoLevel {
	d := dice(n)
	var list []impl.TwoLevel
	for k := range 300 {
		list = append(list, mixOf(0, 1+k%(n-1), 1+2*d.below(4)))
	}
	return list
}

// referenceProducts multiplies the operators' matrices from left to right, with numerators of any size, and returns all products until one fails.
func referenceProducts(n int, list []impl.TwoLevel) []impl.Matrix {
	products := []impl.Matrix{identity(n)}
	for k, o := range list {
		m, _ := tableOf(identity(n)).after(o).matrix()
		product, ok := referenceMul(products[k], m)
		if !ok {
			break
		}
		products = append(products, product)
	}
	return products
}

// TestComposeTwoLevelBeyondTheLimits has lists whose products grow until a number is not valid; every longer list fails, too.
func TestComposeTwoLevelBeyondTheLimits(t *testing.T) {
	for _, n := range twoLevelDims() {
		list := growingList(n)
		products := referenceProducts(n, list)
		last := len(products) - 1
		if last == len(list) {
			t.Error("all products are valid:", n)
		}
		for k := range list {
			if k <= last && k > last-4 {
				got, ok := impl.ComposeTwoLevel(n, list[:k])
				checkMatrix(t, "ComposeTwoLevel", got, ok, products[k])
				is, ok := impl.CheckDecomposition(products[k], list[:k])
				checkAnswer(t, "CheckDecomposition", is, ok, true, true)
			}
			if k > last && k < last+4 {
				checkNotComposed(t, n, list[:k])
			}
		}
		checkNotComposed(t, n, list)
	}
}

// checkPlace puts an operator into each place of a list.
func checkPlace(t *testing.T, n int, o impl.TwoLevel) {
	t.Helper()
	for place := range 4 {
		checkNotComposed(t, n, slices.Insert([]impl.TwoLevel{exchangeOf(0, 1), turnOf(1, 3), mixOf(0, 1, 5)}, place, o))
	}
	checkNotComposed(t, n, []impl.TwoLevel{o})
}

func TestComposeTwoLevelOfInvalidOperators(t *testing.T) {
	for _, n := range twoLevelDims() {
		for _, o := range invalidOperators(n) {
			checkPlace(t, n, o)
		}
		long := slices.Repeat([]impl.TwoLevel{turnOf(0, 1)}, maxOperators)
		long[maxOperators-1] = exchangeOf(1, 1)
		checkNotComposed(t, n, long)
		long[maxOperators-1], long[0] = turnOf(0, 1), turnOf(0, 0)
		checkNotComposed(t, n, long)
	}
	for _, n := range otherDimensions() {
		checkNotComposed(t, n, nil)
		checkNotComposed(t, n, []impl.TwoLevel{})
		checkNotComposed(t, n, []impl.TwoLevel{turnOf(0, 1)})
		checkNotComposed(t, n, []impl.TwoLevel{exchangeOf(0, 1), mixOf(0, 1, 0)})
	}
}

func checkDiffers(t *testing.T, m impl.Matrix, list []impl.TwoLevel) {
	t.Helper()
	is, ok := impl.CheckDecomposition(m, list)
	checkAnswer(t, "CheckDecomposition of another list", is, ok, false, true)
}

// TestCheckDecompositionOfChangedLists changes, removes, adds and exchanges the operators of right lists.
func TestCheckDecompositionOfChangedLists(t *testing.T) {
	for _, n := range twoLevelDims() {
		for seed := range 6 {
			m := changedBy(t, identity(n), 0, 12, seed+n)
			list, ok := impl.DecomposeMatrix(m)
			is, fine := impl.CheckDecomposition(m, list)
			checkAnswer(t, "CheckDecomposition", is, fine && ok, true, true)
			for k, o := range list {
				checkDiffers(t, m, slices.Delete(slices.Clone(list), k, k+1))
				checkDiffers(t, m, slices.Insert(slices.Clone(list), k, turnOf(k%n, 1+k%7)))
				checkDiffers(t, m, slices.Insert(slices.Clone(list), k, mixOf(0, n-1, k%8)))
				changed := slices.Clone(list)
				changed[k] = []impl.TwoLevel{{}, turnOf(o.I, o.M%7+1), turnOf(o.J, 3), mixOf(o.I, o.J, (o.M+1)%8)}[o.Kind]
				checkDiffers(t, m, changed)
			}
			checkDiffers(t, withPhases(t, m, append(make([]int, n-1), 1)...), list)
			checkDiffers(t, turned(m, 1+seed), list)
			checkDiffers(t, filled(n, n, whole(0)), list)
			checkDiffers(t, filled(n, n, whole(maxCoef)), list)
		}
	}
	checkDiffers(t, halfPowers(0, 1, 0, 5), []impl.TwoLevel{turnOf(1, 1), mixOf(0, 1, 0)})
	checkDiffers(t, identity(2), []impl.TwoLevel{turnOf(0, 4)})
	checkDiffers(t, hadamard(), nil)
	is, ok := impl.CheckDecomposition(identity(8), nil)
	checkAnswer(t, "CheckDecomposition of the identity", is, ok, true, true)
}

// TestCheckDecompositionOfOtherMatrices has matrices that are not valid, not square, or of other dimensions.
func TestCheckDecompositionOfOtherMatrices(t *testing.T) {
	list := append(invalidMatrices(), identity(1), identity(16), identity(32), matrix(1, 2, whole(1), whole(0)), filled(2, 1, rootHalf), filled(2, 4, whole(1)), filled(4, 2, whole(1)), filled(8, 4, whole(0)), filled(8, 1, whole(0)), filled(2, 32, whole(0)))
	for _, m := range list {
		for _, l := range [][]impl.TwoLevel{nil, {exchangeOf(0, 1)}, {turnOf(0, 1), mixOf(0, 1, 2)}} {
			is, ok := impl.CheckDecomposition(m, l)
			checkAnswer(t, "CheckDecomposition", is, ok, false, false)
		}
	}
	for _, x := range invalidDyadics() {
		is, ok := impl.CheckDecomposition(matrix(2, 2, whole(1), whole(0), x, whole(1)), nil)
		checkAnswer(t, "CheckDecomposition with an invalid cell", is, ok, false, false)
	}
	for _, o := range []impl.TwoLevel{turnOf(2, 1), exchangeOf(1, 2), mixOf(0, 3, 0)} {
		is, ok := impl.CheckDecomposition(identity(2), []impl.TwoLevel{o})
		checkAnswer(t, "CheckDecomposition of a list of another dimension", is, ok, false, false)
	}
}

// TestCheckDecompositionWithGreatNumbers has valid matrices that are not unitary.
func TestCheckDecompositionWithGreatNumbers(t *testing.T) {
	for _, x := range validDyadics() {
		for _, n := range twoLevelDims() {
			checkDiffers(t, filled(n, n, x), nil)
			checkDiffers(t, filled(n, n, x), sampleOperators(n, 9, n))
		}
	}
	for _, a := range []int{math.MinInt, -maxCoef - 1, maxCoef + 1, math.MaxInt} {
		is, ok := impl.CheckDecomposition(matrix(2, 2, whole(a), whole(0), whole(0), whole(a)), nil)
		checkAnswer(t, "CheckDecomposition with a great number", is, ok, false, false)
	}
}
