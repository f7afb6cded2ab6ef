package tests

import (
	"testing"

	"loop.example/g00864/impl"
)

// referenceDot sums the products from left to right with numerators of any size.
func referenceDot(row []impl.Dyadic, column []impl.Dyadic) (impl.Dyadic, bool) {
	var sum impl.Dyadic
	for k, x := range row {
		product, ok := referenceProduct(fractionOf(x), fractionOf(column[k]))
		if !ok {
			return impl.Dyadic{}, false
		}
		if sum, ok = referenceSum(fractionOf(sum), fractionOf(product), 1); !ok {
			return impl.Dyadic{}, false
		}
	}
	return sum, true
}

// referenceMatrix computes cell after cell and fails if one of them fails.
func referenceMatrix(rows int, cols int, cell func(row int, col int) (impl.Dyadic, bool)) (impl.Matrix, bool) {
	m := matrix(rows, cols)
	for row := range rows {
		for col := range cols {
			x, ok := cell(row, col)
			if !ok {
				return impl.Matrix{}, false
			}
			m.Cells = append(m.Cells, x)
		}
	}
	return m, true
}

func referenceMul(a impl.Matrix, b impl.Matrix) (impl.Matrix, bool) {
	return referenceMatrix(a.Rows, b.Cols, func(row int, col int) (impl.Dyadic, bool) {
		var line, column []impl.Dyadic
		for k := range a.Cols {
			line, column = append(line, a.Cells[row*a.Cols+k]), append(column, b.Cells[k*b.Cols+col])
		}
		return referenceDot(line, column)
	})
}

func referenceAdjoint(m impl.Matrix) (impl.Matrix, bool) {
	return referenceMatrix(m.Cols, m.Rows, func(row int, col int) (impl.Dyadic, bool) {
		return fractionOf(m.Cells[col*m.Cols+row]).conjugate().dyadic()
	})
}

func compareMatrix(t *testing.T, name string, got impl.Matrix, ok bool, want impl.Matrix, succeeds bool) {
	t.Helper()
	if ok != succeeds || !sameMatrix(got, want) {
		t.Errorf("%s: got %v, %v, want %v, %v", name, got, ok, want, succeeds)
	}
}

// referenceMatrices have cells of all sizes, so that about half of the products of two of them fail.
func referenceMatrices(rows int, cols int) []impl.Matrix {
	var list []impl.Matrix
	for step, bound := range []int{3, 20, 9000, 14000, 17000, 30000, maxCoef} {
		for _, exps := range []int{1, 3, 20, 40} {
			cells := dyadicSamples(rows*cols*3+step, bound, exps)[5:]
			for k := range 3 {
				list = append(list, matrix(rows, cols, cells[k*rows*cols:(k+1)*rows*cols]...))
			}
		}
	}
	return list
}

func TestMatrixReferenceOfProducts(t *testing.T) {
	fine, failed := 0, 0
	for _, dims := range [][3]int{{1, 1, 1}, {1, 2, 1}, {2, 2, 2}, {1, 4, 2}, {2, 1, 4}} {
		for _, a := range referenceMatrices(dims[0], dims[1]) {
			for _, b := range referenceMatrices(dims[1], dims[2]) {
				want, succeeds := referenceMul(a, b)
				got, ok := impl.MulMatrix(a, b)
				compareMatrix(t, "MulMatrix", got, ok, want, succeeds)
				if succeeds {
					fine++
				} else {
					failed++
				}
			}
		}
	}
	if fine < 1000 || failed < 1000 {
		t.Error("the cases are not mixed:", fine, failed)
	}
}

func TestMatrixReferenceOfOneArgument(t *testing.T) {
	for _, dims := range [][2]int{{1, 1}, {2, 2}, {4, 4}, {2, 4}, {4, 1}} {
		for _, m := range referenceMatrices(dims[0], dims[1]) {
			adjoint, succeeds := referenceAdjoint(m)
			got, ok := impl.Adjoint(m)
			compareMatrix(t, "Adjoint", got, ok, adjoint, succeeds)
			if m.Rows != m.Cols {
				continue
			}
			square, succeeds := referenceMul(m, adjoint)
			is, ok := impl.IsUnitary(m)
			checkAnswer(t, "IsUnitary", is, ok, succeeds && sameMatrix(square, identity(m.Rows)), succeeds)
			var diagonal []impl.Dyadic
			for k := range m.Rows {
				diagonal = append(diagonal, m.Cells[k*m.Rows+k])
			}
			want, succeeds := referenceDot(diagonal, repeated(whole(1), m.Rows))
			trace, ok := impl.TraceOf(m)
			compareDyadic(t, "TraceOf", trace, ok, want, succeeds, m)
		}
	}
}

func TestMatrixReferenceOfSumsAndMultiples(t *testing.T) {
	for _, dims := range [][2]int{{1, 1}, {2, 2}, {1, 4}} {
		list := referenceMatrices(dims[0], dims[1])
		for k, a := range list {
			for l, b := range list {
				if (k+l)%3 == 0 {
					continue
				}
				want, succeeds := referenceMatrix(a.Rows, a.Cols, func(row int, col int) (impl.Dyadic, bool) {
					at := row*a.Cols + col
					return referenceSum(fractionOf(a.Cells[at]), fractionOf(b.Cells[at]), 1)
				})
				got, ok := impl.AddMatrix(a, b)
				compareMatrix(t, "AddMatrix", got, ok, want, succeeds)
				x := b.Cells[0]
				want, succeeds = referenceMatrix(a.Rows, a.Cols, func(row int, col int) (impl.Dyadic, bool) {
					return referenceProduct(fractionOf(a.Cells[row*a.Cols+col]), fractionOf(x))
				})
				got, ok = impl.ScaleMatrix(a, x)
				compareMatrix(t, "ScaleMatrix", got, ok, want, succeeds)
			}
		}
	}
}

func TestMatrixReferenceOfKroneckerProducts(t *testing.T) {
	for _, dims := range [][4]int{{1, 1, 2, 2}, {2, 1, 1, 2}, {2, 2, 2, 1}, {1, 2, 2, 2}} {
		for k, a := range referenceMatrices(dims[0], dims[1]) {
			for l, b := range referenceMatrices(dims[2], dims[3]) {
				if (k+l)%3 != 0 {
					continue
				}
				want, succeeds := referenceMatrix(a.Rows*b.Rows, a.Cols*b.Cols, func(row int, col int) (impl.Dyadic, bool) {
					x, y := a.Cells[row/b.Rows*a.Cols+col/b.Cols], b.Cells[row%b.Rows*b.Cols+col%b.Cols]
					return referenceProduct(fractionOf(x), fractionOf(y))
				})
				got, ok := impl.Kron(a, b)
				compareMatrix(t, "Kron", got, ok, want, succeeds)
			}
		}
	}
}
