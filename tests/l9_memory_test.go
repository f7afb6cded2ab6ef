package tests

import (
	"slices"
	"testing"

	"loop.example/g00864/impl"
)

// guardedBloch is a Bloch matrix with spare capacity behind its cells, and a copy of all of that memory.
type guardedBloch struct {
	b      impl.Bloch
	before []impl.Dyadic
}

// guardBloch fills the spare capacity with numbers that are not valid.
func guardBloch(b impl.Bloch) guardedBloch {
	cells := slices.Concat(b.Cells, repeated(dyadic(ring(7, 7, 7, 7), -7), 32))
	return guardedBloch{bloch(cells[:len(b.Cells)]...), slices.Clone(cells)}
}

func (g guardedBloch) check(t *testing.T, what string) {
	t.Helper()
	if all := g.b.Cells[:len(g.before)]; !slices.Equal(all, g.before) {
		t.Errorf("%s: an argument was changed: %v, before %v", what, all, g.before)
	}
}

// spoilBloch overwrites a result and all memory that can be reached through it.
func spoilBloch(b impl.Bloch) { spoil(matrix(3, 3, b.Cells...)) }

// checkFreshBloch calls f three times and spoils its results one by one.
func checkFreshBloch(t *testing.T, what string, f func() (impl.Bloch, bool)) {
	t.Helper()
	first, ok := f()
	second, fine := f()
	if ok != fine || !sameBloch(first, second) {
		t.Error(what, "has two results")
	}
	kept := slices.Clone(second.Cells)
	spoilBloch(first)
	if !slices.Equal(second.Cells, kept) {
		t.Error(what, "shares memory of two results")
	}
	spoilBloch(second)
	if third, ok := f(); ok != fine || !slices.Equal(third.Cells, kept) {
		t.Error(what, "has another result after its results were spoilt:", third, ok)
	}
}

// blochMemoryCases are valid and not valid Bloch matrices, among them those that a product or a transpose can return unchanged.
func blochMemoryCases(t *testing.T) []impl.Bloch {
	list := append(allRotations()[:6], wrongCounts()...)
	list = append(list, notReal()[0], notInverse()[0], wholeBloch(-1, 0, 0, 0, -1, 0, 0, 0, -1), wholeBloch(1, 0, 0, 0, 1, 0, 0, 0, 2))
	for _, count := range []int{1, 2, 3, 12, 25, 31, 40} {
		list = append(list, operatorBloch(t, normalWord(count, 4)))
	}
	return append(list, bloch(repeated(dyadic(ring(1, 0, 0, 0), -1), 9)...))
}

func TestBlochMemoryOfMatrices(t *testing.T) {
	list := append(memoryCases(), notUnitary()...)
	for _, word := range oneQubitWords()[:40] {
		list = append(list, letterOperator(t, word))
	}
	for _, m := range append(list, letterOperator(t, normalWord(58, 32)), letterOperator(t, normalWord(70, 1))) {
		g := guard(m)
		checkFreshBloch(t, "BlochOf", func() (impl.Bloch, bool) { return impl.BlochOf(g.m) })
		g.check(t, "BlochOf")
		plain, ok := impl.BlochOf(m)
		got, fine := impl.BlochOf(g.m)
		if ok != fine || !sameBloch(plain, got) {
			t.Error("BlochOf reads cells behind the length:", m)
		}
		spoilBloch(got)
		g.check(t, "BlochOf with a spoilt result")
		if impl.IsOneQubit(m) != impl.IsOneQubit(g.m) {
			t.Error("IsOneQubit has two results:", m)
		}
		g.check(t, "IsOneQubit")
	}
}

func TestBlochMemoryOfOneArgument(t *testing.T) {
	for _, b := range blochMemoryCases(t) {
		g := guardBloch(b)
		checkFreshBloch(t, "TransposeBloch", func() (impl.Bloch, bool) { return impl.TransposeBloch(g.b) })
		g.check(t, "TransposeBloch")
		plain, ok := impl.TransposeBloch(b)
		got, fine := impl.TransposeBloch(g.b)
		if ok != fine || !sameBloch(plain, got) || ok != impl.IsValidBloch(g.b) || ok != impl.IsValidBloch(b) {
			t.Error("TransposeBloch reads cells behind the length:", b)
		}
		spoilBloch(got)
		g.check(t, "TransposeBloch with a spoilt result")
		exp, ok := impl.BlochExp(b)
		otherExp, fine := impl.BlochExp(g.b)
		if exp != otherExp || ok != fine {
			t.Error("BlochExp has two results:", b)
		}
		parity, ok := impl.ParityOf(b)
		otherParity, fine := impl.ParityOf(g.b)
		if parity != otherParity || ok != fine {
			t.Error("ParityOf has two results:", b)
		}
		index, ok := impl.CliffordIndex(b)
		otherIndex, fine := impl.CliffordIndex(g.b)
		if index != otherIndex || ok != fine {
			t.Error("CliffordIndex has two results:", b)
		}
		g.check(t, "a question")
	}
}

func TestBlochMemoryOfProducts(t *testing.T) {
	for _, a := range blochMemoryCases(t) {
		for _, b := range blochMemoryCases(t) {
			g, h := guardBloch(a), guardBloch(b)
			checkFreshBloch(t, "MulBloch", func() (impl.Bloch, bool) { return impl.MulBloch(g.b, h.b) })
			plain, ok := impl.MulBloch(a, b)
			got, fine := impl.MulBloch(g.b, h.b)
			if ok != fine || !sameBloch(plain, got) {
				t.Error("MulBloch reads cells behind the length:", a, b)
			}
			spoilBloch(got)
			g.check(t, "MulBloch in front")
			h.check(t, "MulBloch behind")
		}
		g := guardBloch(a)
		checkFreshBloch(t, "MulBloch of one matrix twice", func() (impl.Bloch, bool) { return impl.MulBloch(g.b, g.b) })
		got, ok := impl.MulBloch(g.b, g.b)
		want, fine := impl.MulBloch(a, bloch(slices.Clone(a.Cells)...))
		if ok != fine || !sameBloch(got, want) {
			t.Error("MulBloch differs for one matrix given twice:", a)
		}
		g.check(t, "MulBloch of one matrix twice")
	}
}

// TestBlochOfOneArray has both factors in one array, the second one in the spare capacity of the first.
func TestBlochOfOneArray(t *testing.T) {
	for _, first := range oneQubitWords()[:20] {
		for _, second := range []string{"T", "HTH", "S", normalWord(6, 1)} {
			a, b := letterBloch(t, first), letterBloch(t, second)
			all := slices.Concat(a.Cells, b.Cells)
			before := slices.Clone(all)
			got, ok := impl.MulBloch(bloch(all[:9]...), bloch(all[9:]...))
			want, fine := impl.MulBloch(a, b)
			if !fine {
				t.Error("no product:", first, second)
			}
			checkBloch(t, "MulBloch of two parts of an array", got, ok, want)
			transpose, ok := impl.TransposeBloch(bloch(all[:9]...))
			checkBloch(t, "TransposeBloch of a part of an array", transpose, ok, bloch(turnedOver(a.Cells)...))
			spoilBloch(got)
			spoilBloch(transpose)
			if !slices.Equal(all, before) {
				t.Error("an argument was changed:", all, before)
			}
		}
	}
}

func TestCliffordWordTwice(t *testing.T) {
	for range 2 {
		for k := 23; k >= 0; k-- {
			word, ok := impl.CliffordWord(k)
			checkText(t, "CliffordWord", word, ok, cliffordWords()[k], true)
			index, ok := impl.CliffordIndex(letterBloch(t, word))
			checkNumber(t, "CliffordIndex", index, ok, k)
		}
	}
}
