package tests

import (
	"slices"
	"testing"

	"loop.example/g00864/impl"
)

// guardedOperators is a list with spare capacity, and a copy of all of that memory.
type guardedOperators struct {
	list   []impl.TwoLevel
	before []impl.TwoLevel
}

// guardOperators fills the spare capacity with operators that are not valid.
func guardOperators(list []impl.TwoLevel) guardedOperators {
	all := append(slices.Clone(list), slices.Repeat([]impl.TwoLevel{{Kind: 7, I: 7, J: -7, M: 77}}, len(list)+20)...)
	return guardedOperators{all[:len(list)], slices.Clone(all)}
}

func (g guardedOperators) check(t *testing.T, what string) {
	t.Helper()
	if all := g.list[:len(g.before)]; !slices.Equal(all, g.before) {
		t.Errorf("%s: an argument was changed: %v, before %v", what, all, g.before)
	}
}

// spoilOperators overwrites a result and all memory that can be reached through it.
func spoilOperators(list []impl.TwoLevel) {
	all := list[:cap(list)]
	for k := range all {
		all[k] = twoLevel(-9, 9, -9, 99)
	}
}

// checkFreshOperators calls f twice, spoils both results and calls f once more.
func checkFreshOperators(t *testing.T, what string, f func() ([]impl.TwoLevel, bool)) {
	t.Helper()
	first, ok := f()
	second, fine := f()
	if ok != fine || !slices.Equal(first, second) {
		t.Error(what, "has two results")
	}
	kept := slices.Clone(second)
	spoilOperators(first)
	if !slices.Equal(second, kept) {
		t.Error(what, "shares memory of two results")
	}
	spoilOperators(second)
	if third, sure := f(); sure != ok || !slices.Equal(third, kept) {
		t.Error(what, "has another result after its results were spoilt:", third, sure)
	}
}

func TestTwoLevelMemory(t *testing.T) {
	for _, n := range append(twoLevelDims(), 3) {
		for k, o := range append(allOperators(8, 0), impl.TwoLevel{}, exchangeOf(1, 0), mixOf(0, 1, 8)) {
			if n == 8 && k%5 != 0 {
				continue
			}
			checkFreshMatrix(t, "TwoLevelMatrix", func() (impl.Matrix, bool) { return impl.TwoLevelMatrix(n, o) })
			checkFreshOperators(t, "InverseTwoLevel", func() ([]impl.TwoLevel, bool) { return impl.InverseTwoLevel(n, o) })
		}
	}
}

// columnMemoryCases are vectors and matrices that can be reduced or decomposed, and others.
func columnMemoryCases(t *testing.T) []impl.Matrix {
	list := append(memoryCases(), notUnitary()...)
	list = append(list, notOfLengthOne()...)
	for _, n := range twoLevelDims() {
		list = append(list, basis(n, 0), basis(n, 1), identity(n), changedBy(t, basis(n, 1), 1, 20, n), changedBy(t, basis(n, 0), 0, 1, n), changedBy(t, identity(n), 0, 10, n), changedBy(t, identity(n), n-1, 1, n))
	}
	list = append(list, longColumns(t)[90:100]...)
	return append(list, mustMatrix(t)(impl.OperatorOf(entangled(3, 1, 40))), mustMatrix(t)(impl.OperatorOf(entangled(3, 2, 95))))
}

func TestColumnsMemory(t *testing.T) {
	reduced, decomposed := 0, 0
	for _, m := range columnMemoryCases(t) {
		for from := -1; from <= 2; from++ {
			g := guard(m)
			checkFreshOperators(t, "ReduceColumn", func() ([]impl.TwoLevel, bool) { return impl.ReduceColumn(g.m, from) })
			g.check(t, "ReduceColumn")
			plain, ok := impl.ReduceColumn(m, from)
			got, fine := impl.ReduceColumn(g.m, from)
			if ok != fine || !slices.Equal(plain, got) {
				t.Error("ReduceColumn reads cells behind the length:", m)
			}
			if ok {
				reduced++
			}
		}
		g := guard(m)
		checkFreshOperators(t, "DecomposeMatrix", func() ([]impl.TwoLevel, bool) { return impl.DecomposeMatrix(g.m) })
		g.check(t, "DecomposeMatrix")
		plain, ok := impl.DecomposeMatrix(m)
		got, fine := impl.DecomposeMatrix(g.m)
		if ok != fine || !slices.Equal(plain, got) {
			t.Error("DecomposeMatrix reads cells behind the length:", m)
		}
		if ok {
			decomposed++
		}
	}
	if reduced < 15 || decomposed < 10 {
		t.Error("few calls succeed:", reduced, decomposed)
	}
}

// listMemoryCases are valid lists of some dimension, and others.
func listMemoryCases() [][]impl.TwoLevel {
	list := [][]impl.TwoLevel{nil, {}, {{}}, {exchangeOf(1, 0)}, {turnOf(0, 1), {}}, growingList(2), slices.Repeat([]impl.TwoLevel{turnOf(0, 1)}, maxOperators), slices.Repeat([]impl.TwoLevel{turnOf(0, 1)}, maxOperators+1)}
	for _, n := range twoLevelDims() {
		for seed := range 3 {
			list = append(list, sampleOperators(n, 1+seed*6, seed))
		}
	}
	return list
}

func TestOperatorListsMemory(t *testing.T) {
	for _, list := range listMemoryCases() {
		for _, n := range append(twoLevelDims(), 1, 16) {
			g := guardOperators(list)
			checkFreshMatrix(t, "ComposeTwoLevel", func() (impl.Matrix, bool) { return impl.ComposeTwoLevel(n, g.list) })
			g.check(t, "ComposeTwoLevel")
			plain, ok := impl.ComposeTwoLevel(n, list)
			got, fine := impl.ComposeTwoLevel(n, g.list)
			if ok != fine || !sameMatrix(plain, got) {
				t.Error("ComposeTwoLevel reads operators behind the length:", list)
			}
			for _, m := range []impl.Matrix{plain, identity(n), {}} {
				h := guard(m)
				is, decided := impl.CheckDecomposition(h.m, g.list)
				checkAnswer(t, "CheckDecomposition", is, decided, ok && sameMatrix(m, plain), ok && m.Rows == n)
				g.check(t, "CheckDecomposition")
				h.check(t, "CheckDecomposition")
			}
		}
	}
}

func TestColumnsOfNilLists(t *testing.T) {
	for _, cells := range [][]impl.Dyadic{nil, {}} {
		for _, m := range []impl.Matrix{{Cells: cells}, {Rows: 2, Cols: 1, Cells: cells}, {Rows: 2, Cols: 2, Cells: cells}, {Rows: 8, Cols: 1, Cells: cells}} {
			checkNotColumn(t, m, 0)
			checkNotDecomposed(t, m)
			is, ok := impl.CheckDecomposition(m, nil)
			checkAnswer(t, "CheckDecomposition without cells", is, ok, false, false)
		}
	}
	for _, n := range twoLevelDims() {
		for _, list := range [][]impl.TwoLevel{nil, {}} {
			got, ok := impl.ComposeTwoLevel(n, list)
			checkMatrix(t, "ComposeTwoLevel without operators", got, ok, identity(n))
			is, ok := impl.CheckDecomposition(identity(n), list)
			checkAnswer(t, "CheckDecomposition without operators", is, ok, true, true)
		}
	}
}
