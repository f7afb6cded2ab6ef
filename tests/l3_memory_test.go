package tests

import (
	"slices"
	"testing"

	"loop.example/g00864/impl"
)

// guarded is a matrix with spare capacity behind its cells, and a copy of all of that memory.
type guarded struct {
	m      impl.Matrix
	before []impl.Dyadic
}

// guard fills the spare capacity with numbers that are not valid.
func guard(m impl.Matrix) guarded {
	cells := append(slices.Clone(m.Cells), repeated(dyadic(ring(7, 7, 7, 7), -7), len(m.Cells)+64)...)
	m.Cells = cells[:len(m.Cells)]
	return guarded{m, slices.Clone(cells)}
}

func (g guarded) check(t *testing.T, what string) {
	t.Helper()
	if all := g.m.Cells[:len(g.before)]; !slices.Equal(all, g.before) {
		t.Errorf("%s: an argument was changed: %v, before %v", what, all, g.before)
	}
}

// spoil overwrites a result and all memory that can be reached through it.
func spoil(m impl.Matrix) {
	all := m.Cells[:cap(m.Cells)]
	for k := range all {
		all[k] = dyadic(ring(-9, 9, -9, 9), 99)
	}
}

// memoryCases are valid and not valid matrices, among them those that a product can return unchanged.
func memoryCases() []impl.Matrix {
	list := append(matrixSamples(6, 2), identity(1), identity(4), filled(4, 1, whole(0)), filled(32, 1, rootHalf), filled(1, 32, rootHalf), identity(32))
	short, bad := identity(4), identity(4)
	short.Cells = short.Cells[:15]
	bad.Cells[15].Exp = -1
	return append(list, impl.Matrix{}, short, bad, filled(3, 1, whole(1)), filled(1, 64, whole(1)), filled(2, 2, whole(maxCoef)))
}

func TestMatrixUnaryMemory(t *testing.T) {
	for _, m := range memoryCases() {
		for name, f := range matrixUnaries() {
			g := guard(m)
			first, ok := f(g.m)
			g.check(t, name)
			second, fine := f(g.m)
			if ok != fine || !sameMatrix(first, second) {
				t.Error(name, "has two results for", m)
			}
			kept := slices.Clone(second.Cells)
			spoil(first)
			if !slices.Equal(second.Cells, kept) {
				t.Error(name, "shares memory of two results")
			}
			spoil(second)
			g.check(t, name+" with spoilt results")
		}
	}
}

func TestMatrixBinaryMemory(t *testing.T) {
	for _, a := range memoryCases() {
		for _, b := range memoryCases() {
			for name, f := range matrixBinaries() {
				g, h := guard(a), guard(b)
				first, ok := f(g.m, h.m)
				g.check(t, name)
				h.check(t, name)
				second, fine := f(g.m, h.m)
				if ok != fine || !sameMatrix(first, second) {
					t.Error(name, "has two results for", a, b)
				}
				kept := slices.Clone(second.Cells)
				spoil(first)
				if !slices.Equal(second.Cells, kept) {
					t.Error(name, "shares memory of two results")
				}
				spoil(second)
				g.check(t, name+" with spoilt results")
				h.check(t, name+" with spoilt results")
			}
		}
	}
}

// TestMatrixSameArgumentTwice passes the same memory as both arguments.
func TestMatrixSameArgumentTwice(t *testing.T) {
	for _, m := range memoryCases() {
		for name, f := range matrixBinaries() {
			g := guard(m)
			got, ok := f(g.m, g.m)
			g.check(t, name)
			want, fine := f(m, matrix(m.Rows, m.Cols, slices.Clone(m.Cells)...))
			if ok != fine || !sameMatrix(got, want) {
				t.Error(name, "differs for one argument given twice:", m)
			}
			spoil(got)
			g.check(t, name+" with a spoilt result")
		}
	}
}

func TestMatrixColumnMemory(t *testing.T) {
	for _, m := range memoryCases() {
		for k := range max(m.Cols, 0) {
			g := guard(m)
			got, ok := impl.ColumnOf(g.m, k)
			g.check(t, "ColumnOf")
			other, fine := impl.ColumnOf(g.m, k)
			spoil(got)
			g.check(t, "ColumnOf with a spoilt result")
			if want, _ := impl.ColumnOf(m, k); ok != fine || !sameMatrix(other, want) {
				t.Error("ColumnOf shares memory of two results")
			}
		}
	}
}

func TestMatrixIdentityMemory(t *testing.T) {
	for _, n := range validDims() {
		first, _ := impl.IdentityMatrix(n)
		second, ok := impl.IdentityMatrix(n)
		spoil(first)
		checkMatrix(t, "IdentityMatrix beside a spoilt result", second, ok, identity(n))
		third, ok := impl.IdentityMatrix(n)
		checkMatrix(t, "IdentityMatrix after a spoilt result", third, ok, identity(n))
	}
}

// TestMatrixQuestionsMemory calls the functions that return no matrix.
func TestMatrixQuestionsMemory(t *testing.T) {
	for _, m := range memoryCases() {
		g, h := guard(m), guard(m)
		valid := impl.IsValidMatrix(g.m)
		if !impl.EqualMatrices(g.m, h.m) {
			t.Error("not equal to a copy:", m)
		}
		_, traced := impl.TraceOf(g.m)
		_, decided := impl.IsUnitary(g.m)
		least, ok := impl.LeastExp(g.m)
		if valid != ok || (traced && !valid) || (decided && !valid) || least < 0 {
			t.Error("the functions disagree on validity:", m)
		}
		g.check(t, "a question")
		h.check(t, "a question")
	}
}
