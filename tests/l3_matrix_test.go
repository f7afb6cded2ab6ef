package tests

import (
	"slices"
	"testing"

	"loop.example/g00864/impl"
)

const maxDim = 32

func matrix(rows int, cols int, cells ...impl.Dyadic) impl.Matrix {
	return impl.Matrix{Rows: rows, Cols: cols, Cells: cells}
}

// wholeMatrix has integers as cells.
func wholeMatrix(rows int, cols int, numbers ...int) impl.Matrix {
	cells := make([]impl.Dyadic, len(numbers))
	for i, n := range numbers {
		cells[i] = whole(n)
	}
	return matrix(rows, cols, cells...)
}

// filled has the same number in each cell.
func filled(rows int, cols int, x impl.Dyadic) impl.Matrix {
	return matrix(rows, cols, slices.Repeat([]impl.Dyadic{x}, rows*cols)...)
}

// identity does not use the function that is tested.
func identity(n int) impl.Matrix {
	m := filled(n, n, whole(0))
	for i := range n {
		m.Cells[i*n+i] = whole(1)
	}
	return m
}

var (
	rootHalf = dyadic(ring(1, 0, 0, 0), 1)
	omega    = dyadic(ring(0, 1, 0, 0), 0)
	cube     = dyadic(ring(0, 0, 0, 1), 0)
	plusI    = dyadic(ring(0, 0, 1, 0), 0)
	minusI   = dyadic(ring(0, 0, -1, 0), 0)
	// minusCube is the conjugate of omega.
	minusCube = dyadic(ring(0, 0, 0, -1), 0)
)

func hadamard() impl.Matrix {
	return matrix(2, 2, rootHalf, rootHalf, rootHalf, dyadic(ring(-1, 0, 0, 0), 1))
}

type matrixUnary func(impl.Matrix) (impl.Matrix, bool)
type matrixBinary func(impl.Matrix, impl.Matrix) (impl.Matrix, bool)

// matrixUnaries are all ways to get a matrix from one matrix.
func matrixUnaries() map[string]matrixUnary {
	return map[string]matrixUnary{
		"Adjoint":          impl.Adjoint,
		"ScaleMatrix by 1": func(m impl.Matrix) (impl.Matrix, bool) { return impl.ScaleMatrix(m, whole(1)) },
		"ScaleMatrix by 0": func(m impl.Matrix) (impl.Matrix, bool) { return impl.ScaleMatrix(m, whole(0)) },
		"first ColumnOf":   func(m impl.Matrix) (impl.Matrix, bool) { return impl.ColumnOf(m, 0) },
	}
}

func matrixBinaries() map[string]matrixBinary {
	return map[string]matrixBinary{"MulMatrix": impl.MulMatrix, "AddMatrix": impl.AddMatrix, "Kron": impl.Kron}
}

// sameMatrix does not use the function that is tested.
func sameMatrix(a impl.Matrix, b impl.Matrix) bool {
	return a.Rows == b.Rows && a.Cols == b.Cols && slices.Equal(a.Cells, b.Cells)
}

func checkMatrix(t *testing.T, what string, got impl.Matrix, ok bool, want impl.Matrix) {
	t.Helper()
	if !ok || !sameMatrix(got, want) {
		t.Errorf("%s: got %v, %v, want %v", what, got, ok, want)
	}
}

func checkNoMatrix(t *testing.T, what string, got impl.Matrix, ok bool) {
	t.Helper()
	if ok || !sameMatrix(got, impl.Matrix{}) {
		t.Errorf("%s: got %v, %v, want failure", what, got, ok)
	}
}

// checkAnswer is for IsUnitary, where a failure is the answer false, too.
func checkAnswer(t *testing.T, what string, got bool, ok bool, want bool, succeeds bool) {
	t.Helper()
	if got != want || ok != succeeds {
		t.Errorf("%s: got %v, %v, want %v, %v", what, got, ok, want, succeeds)
	}
}

func TestMatrixMaxDim(t *testing.T) {
	if impl.MaxDim != maxDim {
		t.Error("MaxDim is", impl.MaxDim)
	}
}

func TestMatrixExample(t *testing.T) {
	h := hadamard()
	product, ok := impl.MulMatrix(h, h)
	checkMatrix(t, "h h", product, ok, wholeMatrix(2, 2, 1, 0, 0, 1))
	is, ok := impl.IsUnitary(h)
	checkAnswer(t, "IsUnitary of h", is, ok, true, true)
	trace, ok := impl.TraceOf(h)
	checkDyadic(t, "trace of h", trace, ok, whole(0))
	least, ok := impl.LeastExp(h)
	checkNumber(t, "LeastExp of h", least, ok, 1)
	plus, minus := dyadic(ring(1, 0, 0, 0), 2), dyadic(ring(-1, 0, 0, 0), 2)
	got, ok := impl.Kron(h, h)
	checkMatrix(t, "Kron of h and h", got, ok, matrix(4, 4,
		plus, plus, plus, plus,
		plus, minus, plus, minus,
		plus, plus, minus, minus,
		plus, minus, minus, plus))
}

func TestMatrixIdentities(t *testing.T) {
	for n := 1; n <= maxDim; n *= 2 {
		got, ok := impl.IdentityMatrix(n)
		checkMatrix(t, "IdentityMatrix", got, ok, identity(n))
		is, ok := impl.IsUnitary(got)
		checkAnswer(t, "IsUnitary of the identity", is, ok, true, true)
		trace, ok := impl.TraceOf(got)
		checkDyadic(t, "trace of the identity", trace, ok, whole(n))
		least, ok := impl.LeastExp(got)
		checkNumber(t, "LeastExp of the identity", least, ok, 0)
	}
}

func TestMatrixProductsOrdinary(t *testing.T) {
	square := wholeMatrix(2, 2, 1, 2, 3, 4)
	wide := wholeMatrix(2, 4, 1, 2, 3, 4, 5, 6, 7, 8)
	high := wholeMatrix(4, 2, 1, -1, 2, -2, 3, -3, 4, 0)
	row, column := wholeMatrix(1, 4, 1, 2, 3, 4), wholeMatrix(4, 1, 5, 6, 7, 8)
	cases := []struct {
		what       string
		a, b, want impl.Matrix
	}{
		{"square matrices", square, wholeMatrix(2, 2, 5, 6, 7, 8), wholeMatrix(2, 2, 19, 22, 43, 50)},
		{"square matrices", wholeMatrix(2, 2, 5, 6, 7, 8), square, wholeMatrix(2, 2, 23, 34, 31, 46)},
		{"wide and high", wide, high, wholeMatrix(2, 2, 30, -14, 70, -38)},
		{"high and wide", high, wide, wholeMatrix(4, 4, -4, -4, -4, -4, -8, -8, -8, -8, -12, -12, -12, -12, 4, 8, 12, 16)},
		{"square and wide", square, wide, wholeMatrix(2, 4, 11, 14, 17, 20, 23, 30, 37, 44)},
		{"high and square", high, square, wholeMatrix(4, 2, -2, -2, -4, -4, -6, -6, 4, 8)},
		{"row and column", row, column, wholeMatrix(1, 1, 70)},
		{"column and row", wholeMatrix(2, 1, 5, 6), row, wholeMatrix(2, 4, 5, 10, 15, 20, 6, 12, 18, 24)},
		{"wide and column", wide, column, wholeMatrix(2, 1, 70, 174)},
		{"row and high", row, high, wholeMatrix(1, 2, 30, -14)},
		{"dimension 1", wholeMatrix(1, 1, -3), wholeMatrix(1, 1, 7), wholeMatrix(1, 1, -21)},
		{"dimension 1 and row", wholeMatrix(1, 1, -3), row, wholeMatrix(1, 4, -3, -6, -9, -12)},
		{"column and dimension 1", column, wholeMatrix(1, 1, 2), wholeMatrix(4, 1, 10, 12, 14, 16)},
		{"S and its inverse", matrix(2, 2, whole(1), whole(0), whole(0), plusI), matrix(2, 2, whole(1), whole(0), whole(0), minusI), identity(2)},
		{"X and T", wholeMatrix(2, 2, 0, 1, 1, 0), matrix(2, 2, whole(1), whole(0), whole(0), omega), matrix(2, 2, whole(0), omega, whole(1), whole(0))},
		{"T and X", matrix(2, 2, whole(1), whole(0), whole(0), omega), wholeMatrix(2, 2, 0, 1, 1, 0), matrix(2, 2, whole(0), whole(1), omega, whole(0))},
		{"phases in a sum", matrix(1, 2, plusI, omega), matrix(2, 1, plusI, minusCube), wholeMatrix(1, 1, 0)},
		{"sums in lowest form", hadamard(), matrix(2, 1, rootHalf, rootHalf), wholeMatrix(2, 1, 1, 0)},
	}
	for _, c := range cases {
		got, ok := impl.MulMatrix(c.a, c.b)
		checkMatrix(t, "MulMatrix of "+c.what, got, ok, c.want)
	}
}

func TestMatrixSumsOrdinary(t *testing.T) {
	cases := []struct{ a, b, want impl.Matrix }{
		{wholeMatrix(2, 2, 1, 2, 3, 4), wholeMatrix(2, 2, 10, 20, 30, 40), wholeMatrix(2, 2, 11, 22, 33, 44)},
		{wholeMatrix(1, 4, 1, 2, 3, 4), wholeMatrix(1, 4, -1, -2, -3, 4), wholeMatrix(1, 4, 0, 0, 0, 8)},
		{wholeMatrix(4, 1, 1, 2, 3, 4), wholeMatrix(4, 1, 0, 1, 0, 1), wholeMatrix(4, 1, 1, 3, 3, 5)},
		{wholeMatrix(2, 4, 1, 2, 3, 4, 5, 6, 7, 8), filled(2, 4, whole(-1)), wholeMatrix(2, 4, 0, 1, 2, 3, 4, 5, 6, 7)},
		{wholeMatrix(1, 1, 1), matrix(1, 1, plusI), matrix(1, 1, dyadic(ring(1, 0, 1, 0), 0))},
		{hadamard(), hadamard(), matrix(2, 2,
			dyadic(ring(0, 1, 0, -1), 0), dyadic(ring(0, 1, 0, -1), 0), dyadic(ring(0, 1, 0, -1), 0), dyadic(ring(0, -1, 0, 1), 0))},
		{matrix(1, 2, rootHalf, omega), matrix(1, 2, whole(1), rootHalf), matrix(1, 2, dyadic(ring(1, 1, 0, -1), 1), dyadic(ring(2, 0, 1, 0), 1))},
	}
	for _, c := range cases {
		got, ok := impl.AddMatrix(c.a, c.b)
		checkMatrix(t, "AddMatrix", got, ok, c.want)
		got, ok = impl.AddMatrix(c.b, c.a)
		checkMatrix(t, "AddMatrix, exchanged", got, ok, c.want)
	}
}

func TestMatrixMultiplesOrdinary(t *testing.T) {
	cases := []struct {
		m    impl.Matrix
		x    impl.Dyadic
		want impl.Matrix
	}{
		{wholeMatrix(2, 2, 1, 2, 3, 4), whole(-3), wholeMatrix(2, 2, -3, -6, -9, -12)},
		{wholeMatrix(2, 4, 1, 2, 3, 4, 5, 6, 7, 8), whole(2), wholeMatrix(2, 4, 2, 4, 6, 8, 10, 12, 14, 16)},
		{wholeMatrix(4, 1, 1, 2, 3, 4), whole(0), wholeMatrix(4, 1, 0, 0, 0, 0)},
		{wholeMatrix(1, 2, 1, -1), omega, matrix(1, 2, omega, dyadic(ring(0, -1, 0, 0), 0))},
		{matrix(1, 1, plusI), minusI, wholeMatrix(1, 1, 1)},
		{hadamard(), dyadic(ring(0, 1, 0, -1), 0), wholeMatrix(2, 2, 1, 1, 1, -1)},
		{wholeMatrix(1, 2, 1, 2), rootHalf, matrix(1, 2, rootHalf, dyadic(ring(0, 1, 0, -1), 0))},
	}
	for _, c := range cases {
		got, ok := impl.ScaleMatrix(c.m, c.x)
		checkMatrix(t, "ScaleMatrix", got, ok, c.want)
	}
}

func TestMatrixAdjointsOrdinary(t *testing.T) {
	three := dyadic(ring(2, 3, 5, -7), 3)
	cases := []struct{ m, want impl.Matrix }{
		{wholeMatrix(2, 2, 1, 2, 3, 4), wholeMatrix(2, 2, 1, 3, 2, 4)},
		{matrix(2, 2, omega, plusI, rootHalf, three), matrix(2, 2, minusCube, rootHalf, minusI, dyadic(ring(2, 7, -5, -3), 3))},
		{wholeMatrix(2, 4, 1, 2, 3, 4, 5, 6, 7, 8), wholeMatrix(4, 2, 1, 5, 2, 6, 3, 7, 4, 8)},
		{wholeMatrix(4, 2, 1, 2, 3, 4, 5, 6, 7, 8), wholeMatrix(2, 4, 1, 3, 5, 7, 2, 4, 6, 8)},
		{matrix(1, 4, whole(1), omega, plusI, rootHalf), matrix(4, 1, whole(1), minusCube, minusI, rootHalf)},
		{matrix(4, 1, whole(1), omega, plusI, rootHalf), matrix(1, 4, whole(1), minusCube, minusI, rootHalf)},
		{matrix(1, 1, plusI), matrix(1, 1, minusI)},
	}
	for _, c := range cases {
		got, ok := impl.Adjoint(c.m)
		checkMatrix(t, "Adjoint", got, ok, c.want)
	}
}

func TestMatrixKroneckerProductsOrdinary(t *testing.T) {
	square := wholeMatrix(2, 2, 1, 2, 3, 4)
	cases := []struct {
		what       string
		a, b, want impl.Matrix
	}{
		{"square matrices", square, wholeMatrix(2, 2, 0, 5, 6, 7), wholeMatrix(4, 4, 0, 5, 0, 10, 6, 7, 12, 14, 0, 15, 0, 20, 18, 21, 24, 28)},
		{"square matrices", wholeMatrix(2, 2, 0, 5, 6, 7), square, wholeMatrix(4, 4, 0, 0, 5, 10, 0, 0, 15, 20, 6, 12, 7, 14, 18, 24, 21, 28)},
		{"row and column", wholeMatrix(1, 2, 1, 2), wholeMatrix(2, 1, 3, 4), wholeMatrix(2, 2, 3, 6, 4, 8)},
		{"column and row", wholeMatrix(2, 1, 3, 4), wholeMatrix(1, 2, 1, 2), wholeMatrix(2, 2, 3, 6, 4, 8)},
		{"rows", wholeMatrix(1, 2, 1, 2), wholeMatrix(1, 4, 1, 10, 100, 1000), wholeMatrix(1, 8, 1, 10, 100, 1000, 2, 20, 200, 2000)},
		{"columns", wholeMatrix(4, 1, 1, 10, 100, 1000), wholeMatrix(2, 1, 1, 2), wholeMatrix(8, 1, 1, 2, 10, 20, 100, 200, 1000, 2000)},
		{"row and square", wholeMatrix(1, 2, 1, 10), square, wholeMatrix(2, 4, 1, 2, 10, 20, 3, 4, 30, 40)},
		{"square and row", square, wholeMatrix(1, 2, 1, 10), wholeMatrix(2, 4, 1, 10, 2, 20, 3, 30, 4, 40)},
		{"square and column", square, wholeMatrix(2, 1, 1, 10), wholeMatrix(4, 2, 1, 2, 10, 20, 3, 4, 30, 40)},
		{"dimension 1", wholeMatrix(1, 1, 3), wholeMatrix(1, 1, -5), wholeMatrix(1, 1, -15)},
		{"dimension 1 and wide", wholeMatrix(1, 1, 2), wholeMatrix(2, 4, 1, 2, 3, 4, 5, 6, 7, 8), wholeMatrix(2, 4, 2, 4, 6, 8, 10, 12, 14, 16)},
		{"wide and dimension 1", wholeMatrix(2, 4, 1, 2, 3, 4, 5, 6, 7, 8), matrix(1, 1, whole(2)), wholeMatrix(2, 4, 2, 4, 6, 8, 10, 12, 14, 16)},
		{"phases", matrix(1, 2, omega, plusI), matrix(1, 2, plusI, minusCube), matrix(1, 4, cube, whole(1), whole(-1), omega)},
	}
	for _, c := range cases {
		got, ok := impl.Kron(c.a, c.b)
		checkMatrix(t, "Kron of "+c.what, got, ok, c.want)
	}
}

func TestMatrixColumnsOrdinary(t *testing.T) {
	cases := []struct {
		m    impl.Matrix
		k    int
		want impl.Matrix
	}{
		{wholeMatrix(2, 2, 1, 2, 3, 4), 0, wholeMatrix(2, 1, 1, 3)},
		{wholeMatrix(2, 2, 1, 2, 3, 4), 1, wholeMatrix(2, 1, 2, 4)},
		{wholeMatrix(2, 4, 1, 2, 3, 4, 5, 6, 7, 8), 2, wholeMatrix(2, 1, 3, 7)},
		{wholeMatrix(2, 4, 1, 2, 3, 4, 5, 6, 7, 8), 3, wholeMatrix(2, 1, 4, 8)},
		{wholeMatrix(4, 2, 1, 2, 3, 4, 5, 6, 7, 8), 1, wholeMatrix(4, 1, 2, 4, 6, 8)},
		{wholeMatrix(4, 1, 1, 2, 3, 4), 0, wholeMatrix(4, 1, 1, 2, 3, 4)},
		{wholeMatrix(1, 4, 1, 2, 3, 4), 3, wholeMatrix(1, 1, 4)},
		{matrix(1, 1, rootHalf), 0, matrix(1, 1, rootHalf)},
		{matrix(2, 2, omega, plusI, rootHalf, minusI), 1, matrix(2, 1, plusI, minusI)},
	}
	for _, c := range cases {
		got, ok := impl.ColumnOf(c.m, c.k)
		checkMatrix(t, "ColumnOf", got, ok, c.want)
	}
}

func TestMatrixTracesOrdinary(t *testing.T) {
	cases := []struct {
		m    impl.Matrix
		want impl.Dyadic
	}{
		{wholeMatrix(1, 1, -7), whole(-7)},
		{wholeMatrix(2, 2, 1, 20, 300, 4000), whole(4001)},
		{wholeMatrix(4, 4, 1, 9, 9, 9, 9, 20, 9, 9, 9, 9, 300, 9, 9, 9, 9, 4000), whole(4321)},
		{matrix(2, 2, whole(1), rootHalf, rootHalf, omega), dyadic(ring(1, 1, 0, 0), 0)},
		{matrix(2, 2, rootHalf, omega, plusI, rootHalf), dyadic(ring(0, 1, 0, -1), 0)},
		{matrix(1, 1, rootHalf), rootHalf},
		{filled(32, 32, rootHalf), dyadic(ring(0, 16, 0, -16), 0)},
	}
	for _, c := range cases {
		got, ok := impl.TraceOf(c.m)
		checkDyadic(t, "TraceOf", got, ok, c.want)
	}
}

func TestMatrixUnitaryOrdinary(t *testing.T) {
	q, minus := dyadic(ring(1, 0, 0, 0), 2), dyadic(ring(-1, 0, 0, 0), 2)
	cases := []struct {
		what string
		m    impl.Matrix
		want bool
	}{
		{"H", hadamard(), true},
		{"X", wholeMatrix(2, 2, 0, 1, 1, 0), true},
		{"Y", matrix(2, 2, whole(0), minusI, plusI, whole(0)), true},
		{"T", matrix(2, 2, whole(1), whole(0), whole(0), omega), true},
		{"H S", matrix(2, 2, rootHalf, dyadic(ring(0, 0, 1, 0), 1), rootHalf, dyadic(ring(0, 0, -1, 0), 1)), true},
		{"a phase", matrix(1, 1, minusCube), true},
		{"a cycle", wholeMatrix(4, 4, 0, 1, 0, 0, 0, 0, 1, 0, 0, 0, 0, 1, 1, 0, 0, 0), true},
		{"halves", matrix(4, 4, q, q, q, minus, q, q, minus, q, q, minus, q, q, minus, q, q, q), true},
		{"3 + 4i", matrix(1, 1, dyadic(ring(3, 0, 4, 0), 0)), false},
		{"zero", wholeMatrix(1, 1, 0), false},
		{"1 / sqrt(2)", matrix(1, 1, rootHalf), false},
		{"1 + w", matrix(1, 1, dyadic(ring(1, 1, 0, 0), 0)), false},
		{"rows of length 1 that are not orthogonal", matrix(2, 2, rootHalf, rootHalf, rootHalf, rootHalf), false},
		{"orthogonal rows of length sqrt(2)", wholeMatrix(2, 2, 1, 1, 1, -1), false},
		{"rows that are orthogonal without conjugation", matrix(2, 2, rootHalf, dyadic(ring(0, 0, 1, 0), 1), dyadic(ring(0, 0, 1, 0), 1), rootHalf), true},
		{"rows that are orthogonal only without conjugation", matrix(2, 2, rootHalf, dyadic(ring(0, 0, 1, 0), 1), rootHalf, dyadic(ring(0, 0, 1, 0), 1)), false},
		{"one row too short", wholeMatrix(2, 2, 1, 0, 0, 0), false},
		{"triangular", wholeMatrix(2, 2, 1, 1, 0, 1), false},
		{"twice the identity", wholeMatrix(2, 2, 2, 0, 0, 2), false},
	}
	for _, c := range cases {
		is, ok := impl.IsUnitary(c.m)
		checkAnswer(t, "IsUnitary of "+c.what, is, ok, c.want, true)
	}
}

func TestMatrixLeastExponentsOrdinary(t *testing.T) {
	over := func(exp int) impl.Dyadic { return dyadic(ring(1, 1, 0, 0), exp) }
	cases := []struct {
		m    impl.Matrix
		want int
	}{
		{wholeMatrix(1, 1, 0), 0},
		{wholeMatrix(2, 2, 1, 2, 3, maxCoef), 0},
		{matrix(1, 1, over(1)), 1},
		{matrix(1, 1, over(maxExp)), maxExp},
		{matrix(1, 4, over(1), over(5), over(3), over(0)), 5},
		{matrix(4, 1, over(7), over(5), over(3), over(0)), 7},
		{matrix(2, 2, over(0), over(1), over(2), over(3)), 3},
		{matrix(2, 4, over(0), over(1), over(2), over(59), over(60), over(4), over(4), over(58)), 60},
	}
	for _, c := range cases {
		got, ok := impl.LeastExp(c.m)
		checkNumber(t, "LeastExp", got, ok, c.want)
	}
}

func TestMatrixEquality(t *testing.T) {
	odd := dyadic(ring(2, 0, 0, 0), -5)
	values := []impl.Matrix{
		{}, {Rows: 1}, {Cols: 1}, {Rows: -1, Cols: 1 << 62}, {Cells: []impl.Dyadic{{}}},
		wholeMatrix(1, 1, 0), wholeMatrix(1, 1, 1), matrix(1, 1, rootHalf), matrix(1, 1, odd),
		wholeMatrix(1, 2, 1, 2), wholeMatrix(2, 1, 1, 2), wholeMatrix(2, 2, 1, 2), wholeMatrix(2, 1, 2, 1),
		wholeMatrix(2, 2, 1, 2, 3, 4), wholeMatrix(2, 2, 1, 2, 3, 5), wholeMatrix(2, 2, 0, 2, 3, 4), wholeMatrix(2, 2, 1, 2, 3, 4, 5),
		wholeMatrix(1, 4, 1, 2, 3, 4), wholeMatrix(4, 1, 1, 2, 3, 4), wholeMatrix(3, 5, 1, 2, 3, 4),
		matrix(2, 2, whole(1), whole(2), whole(3), dyadic(ring(4, 0, 0, 0), 1)), filled(32, 32, omega), filled(64, 16, omega),
	}
	for k, a := range values {
		for l, b := range values {
			copied := matrix(b.Rows, b.Cols, slices.Clone(b.Cells)...)
			if impl.EqualMatrices(a, copied) != (k == l) {
				t.Error("EqualMatrices of", a, b)
			}
		}
	}
	for _, dims := range [][2]int{{0, 0}, {2, 2}, {-1, 7}} {
		none, empty := matrix(dims[0], dims[1]), impl.Matrix{Rows: dims[0], Cols: dims[1], Cells: make([]impl.Dyadic, 0, 4)}
		none.Cells = nil
		if !impl.EqualMatrices(none, empty) || !impl.EqualMatrices(empty, none) || !impl.EqualMatrices(none, none) {
			t.Error("nil is not empty:", dims)
		}
	}
	spare := wholeMatrix(2, 2, 1, 2, 3, 4, 5, 6)
	spare.Cells = spare.Cells[:4]
	if !impl.EqualMatrices(spare, wholeMatrix(2, 2, 1, 2, 3, 4)) {
		t.Error("the spare capacity is compared")
	}
}
