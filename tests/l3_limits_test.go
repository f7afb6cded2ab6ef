package tests

import (
	"math"
	"slices"
	"testing"

	"loop.example/g00864/impl"
)

// invalidDims are no powers of two, or outside of 1 to MaxDim.
func invalidDims() []int {
	return []int{
		0, -1, -2, -32, 3, 5, 6, 7, 12, 24, 31, 33, 48, 63, 64, 65, 128, 1 << 16, 1 << 31, 1 << 32, 1<<32 + 1, 1 << 61, 1 << 62,
		-1 << 31, -1 << 32, -1 << 62, math.MaxInt, math.MaxInt - 1, math.MinInt, math.MinInt + 1,
	}
}

func validDims() []int { return []int{1, 2, 4, 8, 16, 32} }

// invalidShapes have dimensions that are not valid, or too few or too many cells, some of them behind the length.
func invalidShapes() []impl.Matrix {
	cells := slices.Repeat([]impl.Dyadic{whole(1)}, 64)
	list := []impl.Matrix{{}, {Rows: 1, Cols: 1}, {Rows: 2, Cols: 2, Cells: []impl.Dyadic{}}, {Cells: cells[:1]}}
	for _, n := range invalidDims() {
		for _, m := range append(validDims(), invalidDims()...) {
			for _, count := range []int{0, 1, 2, 4, 64} {
				list = append(list, matrix(n, m, cells[:count]...), matrix(m, n, cells[:count]...))
			}
			// The product is computed as the machine does it, which wraps around.
			if count := n * m; count >= 0 && count <= 1<<12 {
				list = append(list, filled(n, m, whole(1)), filled(m, n, whole(1)))
			}
		}
	}
	for _, n := range []int{1, 2, 8} {
		for _, m := range []int{1, 2, 4} {
			for _, count := range []int{0, 1, n*m - 1, n*m + 1, 2 * n * m, n + m, 64} {
				if count != n*m {
					list = append(list, matrix(n, m, cells[:count]...))
				}
			}
		}
	}
	return list
}

// invalidCells have one cell that is not valid, at the start, in the middle or at the end.
func invalidCells() []impl.Matrix {
	var list []impl.Matrix
	for k, x := range invalidDyadics() {
		list = append(list, matrix(1, 1, x))
		for _, dims := range [][2]int{{2, 2}, {1, 4}, {4, 1}} {
			m := filled(dims[0], dims[1], whole(1))
			m.Cells[k%4] = x
			list = append(list, m)
		}
	}
	for k := range 1024 {
		m := identity(32)
		m.Cells[k] = dyadic(ring(2, 0, 0, 0), 1)
		if k%93 == 0 {
			list = append(list, m)
		}
	}
	return list
}

func invalidMatrices() []impl.Matrix { return append(invalidShapes(), invalidCells()...) }

// matrixSamples returns matrices of all small shapes with small cells, the same ones in every run.
func matrixSamples(bound int, exps int) []impl.Matrix {
	var list []impl.Matrix
	for _, rows := range []int{1, 2, 4} {
		for _, cols := range []int{1, 2, 4} {
			list = append(list, sampleMatrix(rows, cols, bound, exps))
		}
	}
	return append(list, sampleMatrix(2, 2, bound+1, exps), sampleMatrix(4, 4, bound+1, exps), hadamard(), identity(2))
}

func sampleMatrix(rows int, cols int, bound int, exps int) impl.Matrix {
	// The constants at the start of dyadicSamples are left out.
	return matrix(rows, cols, dyadicSamples(rows*cols*exps, bound, exps)[5:rows*cols+5]...)
}

func TestMatrixValidity(t *testing.T) {
	for _, rows := range validDims() {
		for _, cols := range validDims() {
			for _, x := range validDyadics() {
				if !impl.IsValidMatrix(filled(rows, cols, x)) {
					t.Error("not valid:", rows, cols, x)
				}
			}
		}
	}
	for _, m := range invalidMatrices() {
		if impl.IsValidMatrix(m) {
			t.Error("valid:", m.Rows, m.Cols, len(m.Cells), m.Cells)
		}
	}
}

// TestMatrixCellsBehindTheLength has the missing cells, or ones that are not valid, in the spare capacity.
func TestMatrixCellsBehindTheLength(t *testing.T) {
	short := filled(2, 2, whole(1))
	short.Cells = short.Cells[:3]
	if impl.IsValidMatrix(short) {
		t.Error("a cell behind the length was read")
	}
	got, ok := impl.MulMatrix(short, short)
	checkNoMatrix(t, "product of matrices that are too short", got, ok)
	long := filled(4, 4, dyadic(impl.Ring{}, 5))
	for k := range 4 {
		long.Cells[k] = whole(k)
	}
	long = matrix(2, 2, long.Cells[:4]...)
	if !impl.IsValidMatrix(long) {
		t.Error("a cell behind the length was read")
	}
	got, ok = impl.MulMatrix(long, long)
	checkMatrix(t, "product", got, ok, wholeMatrix(2, 2, 2, 3, 6, 11))
	least, ok := impl.LeastExp(long)
	checkNumber(t, "LeastExp", least, ok, 0)
}

func TestMatrixIdentityDimensions(t *testing.T) {
	for n := -100; n <= 100; n++ {
		got, ok := impl.IdentityMatrix(n)
		if slices.Contains(validDims(), n) {
			checkMatrix(t, "IdentityMatrix", got, ok, identity(n))
		} else {
			checkNoMatrix(t, "IdentityMatrix", got, ok)
		}
	}
	for _, n := range invalidDims() {
		got, ok := impl.IdentityMatrix(n)
		checkNoMatrix(t, "IdentityMatrix", got, ok)
	}
}

func TestMatrixInvalidArguments(t *testing.T) {
	for _, m := range invalidMatrices() {
		for name, f := range matrixUnaries() {
			got, ok := f(m)
			checkNoMatrix(t, name, got, ok)
		}
		for _, k := range []int{0, 1, -1, math.MaxInt, math.MinInt} {
			got, ok := impl.ColumnOf(m, k)
			checkNoMatrix(t, "ColumnOf", got, ok)
		}
		trace, ok := impl.TraceOf(m)
		checkDyadicFails(t, "TraceOf", trace, ok)
		is, ok := impl.IsUnitary(m)
		checkAnswer(t, "IsUnitary", is, ok, false, false)
		least, ok := impl.LeastExp(m)
		checkNoNumber(t, "LeastExp", least, ok)
	}
}

func TestMatrixInvalidPairs(t *testing.T) {
	partners := []impl.Matrix{wholeMatrix(1, 1, 1), wholeMatrix(1, 1, 0), identity(2), filled(2, 2, whole(0)), filled(4, 1, whole(0)), filled(1, 4, whole(1)), {}}
	for _, m := range invalidMatrices() {
		for name, f := range matrixBinaries() {
			got, ok := f(m, m)
			checkNoMatrix(t, name, got, ok)
			for _, other := range partners {
				got, ok = f(m, other)
				checkNoMatrix(t, name, got, ok)
				got, ok = f(other, m)
				checkNoMatrix(t, name, got, ok)
			}
		}
	}
}

func TestMatrixInvalidFactors(t *testing.T) {
	for _, x := range invalidDyadics() {
		for _, m := range []impl.Matrix{wholeMatrix(1, 1, 0), wholeMatrix(1, 1, 1), identity(4), filled(32, 1, whole(0)), {}} {
			got, ok := impl.ScaleMatrix(m, x)
			checkNoMatrix(t, "ScaleMatrix", got, ok)
		}
	}
}

func TestMatrixShapesOfProductsAndSums(t *testing.T) {
	for _, rows := range validDims() {
		for _, cols := range validDims() {
			a := filled(rows, cols, whole(2))
			for _, more := range validDims() {
				for _, last := range []int{1, 2, 32} {
					b := filled(more, last, whole(3))
					got, ok := impl.MulMatrix(a, b)
					if cols == more {
						checkMatrix(t, "MulMatrix", got, ok, filled(rows, last, whole(6*cols)))
					} else {
						checkNoMatrix(t, "MulMatrix of shapes that do not fit", got, ok)
					}
					got, ok = impl.AddMatrix(a, b)
					if rows == more && cols == last {
						checkMatrix(t, "AddMatrix", got, ok, filled(rows, cols, whole(5)))
					} else {
						checkNoMatrix(t, "AddMatrix of shapes that do not fit", got, ok)
					}
				}
			}
		}
	}
}

func TestMatrixShapesOfKroneckerProducts(t *testing.T) {
	for _, rows := range validDims() {
		for _, cols := range validDims() {
			for _, more := range validDims() {
				for _, last := range validDims() {
					got, ok := impl.Kron(filled(rows, cols, whole(2)), filled(more, last, whole(3)))
					if rows*more <= maxDim && cols*last <= maxDim {
						checkMatrix(t, "Kron", got, ok, filled(rows*more, cols*last, whole(6)))
					} else {
						checkNoMatrix(t, "Kron beyond the limit", got, ok)
					}
				}
			}
		}
	}
}

func TestMatrixColumnsOutside(t *testing.T) {
	for _, cols := range validDims() {
		for _, rows := range []int{1, 2, 32} {
			m := filled(rows, cols, whole(0))
			for k := range m.Cells {
				m.Cells[k] = whole(k)
			}
			for _, k := range []int{-1, -2, -cols, cols, cols + 1, 2 * cols, cols * rows, 1 << 32, math.MaxInt, math.MinInt} {
				if k < 0 || k >= cols {
					got, ok := impl.ColumnOf(m, k)
					checkNoMatrix(t, "ColumnOf outside", got, ok)
				}
			}
			for k := range cols {
				want := filled(rows, 1, whole(0))
				for row := range rows {
					want.Cells[row] = whole(row*cols + k)
				}
				got, ok := impl.ColumnOf(m, k)
				checkMatrix(t, "ColumnOf", got, ok, want)
			}
		}
	}
}

func TestMatrixSquareShapes(t *testing.T) {
	for _, rows := range validDims() {
		for _, cols := range validDims() {
			trace, ok := impl.TraceOf(filled(rows, cols, rootHalf))
			is, fine := impl.IsUnitary(filled(rows, cols, rootHalf))
			if rows == cols {
				if !ok {
					t.Error("no trace for dimension", rows)
				}
				checkAnswer(t, "IsUnitary", is, fine, false, true)
			} else {
				checkDyadicFails(t, "TraceOf of another shape", trace, ok)
				checkAnswer(t, "IsUnitary of another shape", is, fine, false, false)
			}
		}
	}
	for _, m := range []impl.Matrix{wholeMatrix(1, 2, 1, 0), matrix(1, 2, rootHalf, rootHalf), wholeMatrix(2, 4, 1, 0, 0, 0, 0, 1, 0, 0), wholeMatrix(2, 1, 1, 0)} {
		is, ok := impl.IsUnitary(m)
		checkAnswer(t, "IsUnitary of orthonormal rows or columns", is, ok, false, false)
	}
}

// sumCase has a sum if ok is true; otherwise a partial sum from left to right is not valid.
type sumCase struct {
	terms []impl.Dyadic
	want  impl.Dyadic
	ok    bool
}

// sumCases depend on the order: most sums that exist would not exist in another one, and the reverse.
func sumCases() []sumCase {
	top, small := whole(maxCoef), dyadic(ring(1, 0, 0, 0), maxExp)
	one, minus := whole(1), whole(-1)
	list := func(terms ...impl.Dyadic) []impl.Dyadic { return terms }
	return []sumCase{
		{list(top), top, true},
		{list(small), small, true},
		{list(top, whole(0)), top, true},
		{list(top, one), impl.Dyadic{}, false},
		{list(top, minus), whole(maxCoef - 1), true},
		{list(top, one, minus, whole(0)), impl.Dyadic{}, false},
		{list(top, minus, one, whole(0)), top, true},
		{list(minus, one, top, whole(0)), top, true},
		{list(minus, top, one, whole(0)), top, true},
		{list(one, top, minus, whole(0)), impl.Dyadic{}, false},
		{list(one, minus, top, whole(0)), top, true},
		{list(whole(0), minus, one, top), top, true},
		{list(whole(0), one, top, minus), impl.Dyadic{}, false},
		{list(whole(-maxCoef), minus, one, one), impl.Dyadic{}, false},
		{list(minus, one, one, whole(-maxCoef)), whole(1 - maxCoef), true},
		// To add 1 and 1 / sqrt(2)^60, the numerator 1 would have to become 2^30.
		{list(one, small), impl.Dyadic{}, false},
		{list(small, one), impl.Dyadic{}, false},
		{list(one, minus, small, whole(0)), small, true},
		{list(one, small, minus, whole(0)), impl.Dyadic{}, false},
		{list(small, one, minus, whole(0)), impl.Dyadic{}, false},
		{list(whole(0), one, minus, small), small, true},
		{list(small, dyadic(ring(-1, 0, 0, 0), maxExp), one, whole(0)), one, true},
		{list(whole(0), whole(0), small, one), impl.Dyadic{}, false},
	}
}

func diagonal(terms []impl.Dyadic) impl.Matrix {
	n := len(terms)
	m := filled(n, n, whole(0))
	for k, x := range terms {
		m.Cells[k*n+k] = x
	}
	return m
}

func TestMatrixOrderOfSums(t *testing.T) {
	for _, c := range sumCases() {
		n := len(c.terms)
		ones, terms := filled(1, n, whole(1)), matrix(n, 1, c.terms...)
		got, ok := impl.MulMatrix(ones, terms)
		trace, fine := impl.TraceOf(diagonal(c.terms))
		swapped, good := impl.MulMatrix(matrix(1, n, c.terms...), filled(n, 1, whole(1)))
		if !c.ok {
			checkNoMatrix(t, "MulMatrix with a partial sum beyond a limit", got, ok)
			checkNoMatrix(t, "MulMatrix with a partial sum beyond a limit", swapped, good)
			checkDyadicFails(t, "TraceOf with a partial sum beyond a limit", trace, fine)
			continue
		}
		checkMatrix(t, "MulMatrix", got, ok, matrix(1, 1, c.want))
		checkMatrix(t, "MulMatrix", swapped, good, matrix(1, 1, c.want))
		checkDyadic(t, "TraceOf", trace, fine, c.want)
	}
}

// TestMatrixOneBadCell lets only one cell of a product fail, be it the last one.
func TestMatrixOneBadCell(t *testing.T) {
	for row := range 4 {
		for col := range 4 {
			a, b := filled(4, 4, whole(0)), filled(4, 4, whole(0))
			a.Cells[row*4], a.Cells[row*4+1] = whole(1), whole(1)
			b.Cells[col], b.Cells[4+col] = whole(maxCoef), whole(-1)
			_, ok := impl.MulMatrix(a, b)
			if !ok {
				t.Error("MulMatrix fails:", row, col)
			}
			b.Cells[4+col] = whole(1)
			got, ok := impl.MulMatrix(a, b)
			checkNoMatrix(t, "MulMatrix", got, ok)
			sum := filled(4, 4, whole(1))
			sum.Cells[row*4+col] = whole(maxCoef)
			got, ok = impl.AddMatrix(sum, filled(4, 4, whole(1)))
			checkNoMatrix(t, "AddMatrix", got, ok)
			got, ok = impl.ScaleMatrix(sum, whole(2))
			checkNoMatrix(t, "ScaleMatrix", got, ok)
			got, ok = impl.Kron(sum, whole22())
			checkNoMatrix(t, "Kron", got, ok)
			got, ok = impl.Kron(whole22(), sum)
			checkNoMatrix(t, "Kron", got, ok)
		}
	}
}

func whole22() impl.Matrix { return wholeMatrix(2, 2, 1, 1, 1, 2) }

func TestMatrixProductsBeyondALimit(t *testing.T) {
	large := whole(31623) // its square is more than MaxCoef
	near := whole(31622)
	fraction := func(exp int) impl.Dyadic { return dyadic(ring(1, 0, 0, 0), exp) }
	cases := []struct {
		what       string
		x, y, z, u impl.Dyadic
		want       impl.Dyadic
		ok         bool
	}{
		{"squares meet the limit", near, near, near, whole(-31622), whole(0), true},
		{"squares beyond the limit cancel", large, large, large, whole(-31623), impl.Dyadic{}, false},
		{"one square beyond the limit", whole(0), whole(0), large, large, impl.Dyadic{}, false},
		{"zero times a large number", whole(0), whole(maxCoef), whole(maxCoef), whole(0), whole(0), true},
		{"exponents meet the limit", fraction(30), fraction(30), fraction(1), fraction(59), fraction(58), true},
		{"exponents beyond the limit", fraction(30), fraction(31), whole(0), whole(0), impl.Dyadic{}, false},
		{"exponents beyond the limit cancel", fraction(30), fraction(31), fraction(30), dyadic(ring(-1, 0, 0, 0), 31), impl.Dyadic{}, false},
		{"exponents beyond the limit before the reduction", dyadic(ring(1, 1, 0, 0), 30), dyadic(ring(1, -1, 1, -1), 31), whole(0), whole(0), impl.Dyadic{}, false},
		{"zero over a great exponent", whole(0), fraction(60), fraction(60), whole(0), whole(0), true},
		{"half of a square beyond the limit", whole(maxCoef), dyadic(ring(3, 0, 0, 0), 4), whole(0), whole(0), impl.Dyadic{}, false},
	}
	for _, c := range cases {
		got, ok := impl.MulMatrix(matrix(1, 2, c.x, c.z), matrix(2, 1, c.y, c.u))
		if c.ok {
			checkMatrix(t, c.what, got, ok, matrix(1, 1, c.want))
		} else {
			checkNoMatrix(t, c.what, got, ok)
		}
		got, ok = impl.MulMatrix(matrix(2, 2, whole(0), whole(0), c.x, c.z), matrix(2, 2, whole(0), c.y, whole(0), c.u))
		if c.ok {
			checkMatrix(t, c.what, got, ok, matrix(2, 2, whole(0), whole(0), whole(0), c.want))
		} else {
			checkNoMatrix(t, c.what, got, ok)
		}
	}
}

func TestMatrixNumbersBeyondALimit(t *testing.T) {
	fraction := func(exp int) impl.Dyadic { return dyadic(ring(1, 0, 0, 0), exp) }
	cases := []struct {
		x, y         impl.Dyadic
		sum, product bool
	}{
		{whole(maxCoef), whole(1), false, true},
		{whole(maxCoef - 1), whole(1), true, true},
		{whole(maxCoef), whole(-1), true, true},
		{whole(31622), whole(31622), true, true},
		{whole(31623), whole(31623), true, false},
		{fraction(30), fraction(30), true, true},
		{fraction(30), fraction(31), true, false},
		{fraction(31), fraction(31), true, false},
		{fraction(60), whole(0), true, true},
		{fraction(60), whole(1), false, true},
		{fraction(29), whole(1), true, true},
		{whole(0), whole(maxCoef), true, true},
	}
	for _, c := range cases {
		for _, n := range []int{1, 4} {
			a, b := diagonal(slices.Repeat([]impl.Dyadic{c.x}, n)), diagonal(slices.Repeat([]impl.Dyadic{c.y}, n))
			outcome := func(what string, ok bool, want bool, got impl.Matrix) {
				t.Helper()
				if ok != want {
					t.Errorf("%s of %v, %v: got %v, want %v", what, c.x, c.y, ok, want)
				}
				if !want {
					checkNoMatrix(t, what, got, ok)
				}
			}
			got, ok := impl.AddMatrix(a, b)
			outcome("AddMatrix", ok, c.sum, got)
			got, ok = impl.ScaleMatrix(a, c.y)
			outcome("ScaleMatrix", ok, c.product, got)
			got, ok = impl.ScaleMatrix(b, c.x)
			outcome("ScaleMatrix", ok, c.product, got)
			got, ok = impl.Kron(a, b)
			outcome("Kron", ok, c.product, got)
			got, ok = impl.MulMatrix(a, b)
			outcome("MulMatrix", ok, c.product, got)
		}
	}
}

func TestMatrixUnitaryAtTheLimits(t *testing.T) {
	fraction := func(exp int) impl.Dyadic { return dyadic(ring(1, 0, 0, 0), exp) }
	cases := []struct {
		what     string
		m        impl.Matrix
		is, fine bool
	}{
		{"a square that meets the exponent limit", matrix(1, 1, fraction(30)), false, true},
		{"a square beyond the exponent limit", matrix(1, 1, fraction(31)), false, false},
		{"a square that meets the limit", wholeMatrix(1, 1, 31622), false, true},
		{"a square beyond the limit", wholeMatrix(1, 1, 31623), false, false},
		{"a square beyond the limit in the last row", wholeMatrix(2, 2, 1, 1, 0, maxCoef), false, false},
		// The sum of the squares of a row is beyond the limit in one of these, that of a column in the other.
		{"long rows", wholeMatrix(2, 2, 30000, 30000, 0, 0), false, false},
		{"long columns", wholeMatrix(2, 2, 30000, 0, 30000, 0), false, true},
		{"a product beyond the limit cancels", wholeMatrix(2, 2, 40000, 40000, 40000, -40000), false, false},
	}
	for _, c := range cases {
		is, ok := impl.IsUnitary(c.m)
		checkAnswer(t, "IsUnitary of "+c.what, is, ok, c.is, c.fine)
	}
	get := mustMatrix(t)
	power := wholeMatrix(1, 1, 1)
	for n := 1; ; n *= 2 {
		is, ok := impl.IsUnitary(power)
		checkAnswer(t, "IsUnitary of a power of h", is, ok, true, true)
		changed := matrix(n, n, slices.Clone(power.Cells)...)
		changed.Cells[n*n-1] = whole(0)
		is, ok = impl.IsUnitary(changed)
		checkAnswer(t, "IsUnitary with a changed cell", is, ok, false, true)
		if n == maxDim {
			break
		}
		power = get(impl.Kron(power, hadamard()))
	}
}

func TestMatrixAdjointsAndExponentsAtTheLimits(t *testing.T) {
	for _, x := range validDyadics() {
		conjugate, ok := impl.ConjDyadic(x)
		if !ok {
			t.Error("ConjDyadic fails:", x)
		}
		for _, n := range []int{1, 2, 32} {
			got, ok := impl.Adjoint(filled(n, 2, x))
			checkMatrix(t, "Adjoint", got, ok, filled(2, n, conjugate))
			least, ok := impl.LeastExp(filled(n, 2, x))
			checkNumber(t, "LeastExp", least, ok, x.Exp)
			got, ok = impl.ColumnOf(filled(n, 2, x), 1)
			checkMatrix(t, "ColumnOf", got, ok, filled(n, 1, x))
		}
	}
}
