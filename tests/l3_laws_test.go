package tests

import (
	"testing"

	"loop.example/g00864/impl"
)

func mustMatrix(t *testing.T) func(impl.Matrix, bool) impl.Matrix {
	return func(m impl.Matrix, ok bool) impl.Matrix {
		t.Helper()
		if !ok || !impl.IsValidMatrix(m) {
			t.Error("a call failed or its result is not valid:", m, ok)
		}
		return m
	}
}

func checkMatrixLaw(t *testing.T, law string, left impl.Matrix, right impl.Matrix) {
	t.Helper()
	if !sameMatrix(left, right) || !impl.EqualMatrices(left, right) {
		t.Errorf("%s: %v is not %v", law, left, right)
	}
}

// lawMatrices have all small shapes and cells with several exponents.
func lawMatrices() []impl.Matrix {
	return append(matrixSamples(6, 3), matrixSamples(9, 2)...)
}

func TestMatrixLawsOfAdjoints(t *testing.T) {
	get := mustMatrix(t)
	for _, a := range lawMatrices() {
		adjoint := get(impl.Adjoint(a))
		checkMatrixLaw(t, "the adjoint of the adjoint", get(impl.Adjoint(adjoint)), a)
		for _, b := range lawMatrices() {
			other := get(impl.Adjoint(b))
			if product, ok := impl.MulMatrix(a, b); ok {
				checkMatrixLaw(t, "adjoints reverse products", get(impl.Adjoint(product)), get(impl.MulMatrix(other, adjoint)))
			} else if a.Cols == b.Rows {
				t.Error("MulMatrix failed:", a, b)
			}
			if sum, ok := impl.AddMatrix(a, b); ok {
				checkMatrixLaw(t, "the adjoint of a sum", get(impl.Adjoint(sum)), get(impl.AddMatrix(adjoint, other)))
			} else if a.Rows == b.Rows && a.Cols == b.Cols {
				t.Error("AddMatrix failed:", a, b)
			}
			product := get(impl.Kron(a, b))
			checkMatrixLaw(t, "the adjoint of a Kronecker product", get(impl.Adjoint(product)), get(impl.Kron(adjoint, other)))
		}
	}
}

func TestMatrixLawsOfProducts(t *testing.T) {
	get := mustMatrix(t)
	list := lawMatrices()
	for _, a := range list {
		checkMatrixLaw(t, "1 on the left", get(impl.MulMatrix(identity(a.Rows), a)), a)
		checkMatrixLaw(t, "1 on the right", get(impl.MulMatrix(a, identity(a.Cols))), a)
		checkMatrixLaw(t, "0 on the left", get(impl.MulMatrix(filled(8, a.Rows, whole(0)), a)), filled(8, a.Cols, whole(0)))
		checkMatrixLaw(t, "0 on the right", get(impl.MulMatrix(a, filled(a.Cols, 1, whole(0)))), filled(a.Rows, 1, whole(0)))
		for _, b := range list {
			if a.Cols != b.Rows {
				continue
			}
			product := get(impl.MulMatrix(a, b))
			for _, c := range list {
				if b.Cols == c.Rows {
					checkMatrixLaw(t, "products associate", get(impl.MulMatrix(product, c)), get(impl.MulMatrix(a, get(impl.MulMatrix(b, c)))))
				}
				if b.Rows == c.Rows && b.Cols == c.Cols {
					sum := get(impl.AddMatrix(b, c))
					checkMatrixLaw(t, "distribution", get(impl.MulMatrix(a, sum)), get(impl.AddMatrix(product, get(impl.MulMatrix(a, c)))))
				}
			}
		}
	}
}

func TestMatrixLawsOfKroneckerProducts(t *testing.T) {
	get := mustMatrix(t)
	list := matrixSamples(5, 2)
	for _, a := range list {
		checkMatrixLaw(t, "1 on the left", get(impl.Kron(identity(1), a)), a)
		checkMatrixLaw(t, "1 on the right", get(impl.Kron(a, identity(1))), a)
		for _, b := range list {
			product := get(impl.Kron(a, b))
			for row := range product.Rows {
				for col := range product.Cols {
					x, y := a.Cells[row/b.Rows*a.Cols+col/b.Cols], b.Cells[row%b.Rows*b.Cols+col%b.Cols]
					cell, ok := impl.MulDyadic(x, y)
					checkDyadic(t, "a cell of Kron", product.Cells[row*product.Cols+col], ok, cell)
				}
			}
			for _, c := range list {
				if a.Rows*b.Rows*c.Rows > maxDim || a.Cols*b.Cols*c.Cols > maxDim {
					continue
				}
				checkMatrixLaw(t, "Kronecker products associate", get(impl.Kron(product, c)), get(impl.Kron(a, get(impl.Kron(b, c)))))
			}
		}
	}
}

func TestMatrixLawOfMixedProducts(t *testing.T) {
	get := mustMatrix(t)
	list := matrixSamples(5, 2)
	for _, a := range list {
		for _, c := range list {
			if a.Cols != c.Rows {
				continue
			}
			for _, b := range list {
				for _, d := range list {
					if b.Cols != d.Rows {
						continue
					}
					left := get(impl.MulMatrix(get(impl.Kron(a, b)), get(impl.Kron(c, d))))
					right := get(impl.Kron(get(impl.MulMatrix(a, c)), get(impl.MulMatrix(b, d))))
					checkMatrixLaw(t, "mixed products", left, right)
				}
			}
		}
	}
}

func TestMatrixLawsOfSumsAndMultiples(t *testing.T) {
	get, number := mustMatrix(t), mustDyadic(t)
	factors := dyadicSamples(6, 5, 2)
	for _, a := range lawMatrices() {
		for _, b := range lawMatrices() {
			if a.Rows != b.Rows || a.Cols != b.Cols {
				continue
			}
			sum := get(impl.AddMatrix(a, b))
			checkMatrixLaw(t, "sums commute", sum, get(impl.AddMatrix(b, a)))
			for _, x := range factors {
				checkMatrixLaw(t, "the multiple of a sum", get(impl.ScaleMatrix(sum, x)), get(impl.AddMatrix(get(impl.ScaleMatrix(a, x)), get(impl.ScaleMatrix(b, x)))))
			}
		}
		checkMatrixLaw(t, "0 is neutral", get(impl.AddMatrix(a, filled(a.Rows, a.Cols, whole(0)))), a)
		checkMatrixLaw(t, "1 as a factor", get(impl.ScaleMatrix(a, whole(1))), a)
		checkMatrixLaw(t, "0 as a factor", get(impl.ScaleMatrix(a, whole(0))), filled(a.Rows, a.Cols, whole(0)))
		for _, x := range factors {
			multiple := get(impl.ScaleMatrix(a, x))
			checkMatrixLaw(t, "a multiple as a product", multiple, get(impl.MulMatrix(diagonal(repeated(x, a.Rows)), a)))
			conjugate := number(impl.ConjDyadic(x))
			checkMatrixLaw(t, "the adjoint of a multiple", get(impl.Adjoint(multiple)), get(impl.ScaleMatrix(get(impl.Adjoint(a)), conjugate)))
			for _, y := range factors {
				checkMatrixLaw(t, "multiples multiply", get(impl.ScaleMatrix(multiple, y)), get(impl.ScaleMatrix(a, number(impl.MulDyadic(x, y)))))
			}
		}
	}
}

func repeated(x impl.Dyadic, count int) []impl.Dyadic { return filled(count, 1, x).Cells }

func TestMatrixLawsOfTraces(t *testing.T) {
	get, number := mustMatrix(t), mustDyadic(t)
	for _, a := range lawMatrices() {
		for _, b := range lawMatrices() {
			if a.Cols == b.Rows && a.Rows == b.Cols {
				left := number(impl.TraceOf(get(impl.MulMatrix(a, b))))
				checkDyadicLaw(t, "traces are cyclic", left, number(impl.TraceOf(get(impl.MulMatrix(b, a)))))
			}
			if a.Rows != a.Cols || b.Rows != b.Cols {
				continue
			}
			first, second := number(impl.TraceOf(a)), number(impl.TraceOf(b))
			product := get(impl.Kron(a, b))
			checkDyadicLaw(t, "the trace of a Kronecker product", number(impl.TraceOf(product)), number(impl.MulDyadic(first, second)))
			if a.Rows == b.Rows {
				sum := get(impl.AddMatrix(a, b))
				checkDyadicLaw(t, "the trace of a sum", number(impl.TraceOf(sum)), number(impl.AddDyadic(first, second)))
			}
		}
		if a.Rows == a.Cols {
			trace := number(impl.TraceOf(get(impl.Adjoint(a))))
			checkDyadicLaw(t, "the trace of the adjoint", trace, number(impl.ConjDyadic(number(impl.TraceOf(a)))))
		}
	}
}

func TestMatrixTracesOfThreeFactors(t *testing.T) {
	get, number := mustMatrix(t), mustDyadic(t)
	list := matrixSamples(4, 2)
	for _, a := range list {
		for _, b := range list {
			for _, c := range list {
				if a.Cols != b.Rows || b.Cols != c.Rows || c.Cols != a.Rows {
					continue
				}
				left := number(impl.TraceOf(get(impl.MulMatrix(get(impl.MulMatrix(a, b)), c))))
				right := number(impl.TraceOf(get(impl.MulMatrix(get(impl.MulMatrix(c, a)), b))))
				checkDyadicLaw(t, "traces are cyclic", left, right)
			}
		}
	}
}

func TestMatrixLawsOfColumns(t *testing.T) {
	get := mustMatrix(t)
	for _, a := range lawMatrices() {
		for k := range a.Cols {
			basis := filled(a.Cols, 1, whole(0))
			basis.Cells[k] = whole(1)
			checkMatrixLaw(t, "a column as a product", get(impl.ColumnOf(a, k)), get(impl.MulMatrix(a, basis)))
		}
		if a.Cols == 1 {
			checkMatrixLaw(t, "the column of a vector", get(impl.ColumnOf(a, 0)), a)
		}
	}
}

// unitaries are products and Kronecker products of H, S, T and a controlled X.
func unitaries(t *testing.T) []impl.Matrix {
	get := mustMatrix(t)
	s := matrix(2, 2, whole(1), whole(0), whole(0), plusI)
	phase := matrix(2, 2, whole(1), whole(0), whole(0), omega)
	control := wholeMatrix(4, 4, 1, 0, 0, 0, 0, 1, 0, 0, 0, 0, 0, 1, 0, 0, 1, 0)
	list := []impl.Matrix{identity(1), matrix(1, 1, omega), hadamard(), s, phase, control}
	x := hadamard()
	for k := range 12 {
		x = get(impl.MulMatrix([]impl.Matrix{phase, hadamard(), s}[k%3], x))
		list = append(list, x, get(impl.MulMatrix(get(impl.Kron(x, phase)), control)))
	}
	return list
}

func TestMatrixLawsOfUnitaries(t *testing.T) {
	get := mustMatrix(t)
	unitary := func(m impl.Matrix) bool {
		is, ok := impl.IsUnitary(m)
		if !ok {
			t.Error("IsUnitary failed:", m)
		}
		return is
	}
	list := unitaries(t)
	for _, u := range list {
		adjoint := get(impl.Adjoint(u))
		checkMatrixLaw(t, "a unitary times its adjoint", get(impl.MulMatrix(u, adjoint)), identity(u.Rows))
		checkMatrixLaw(t, "the adjoint times the unitary", get(impl.MulMatrix(adjoint, u)), identity(u.Rows))
		if !unitary(u) || !unitary(adjoint) || !unitary(get(impl.ScaleMatrix(u, minusCube))) {
			t.Error("not unitary:", u)
		}
		if unitary(get(impl.ScaleMatrix(u, rootHalf))) || unitary(get(impl.AddMatrix(u, u))) {
			t.Error("a multiple is unitary:", u)
		}
		for _, v := range list {
			if u.Rows == v.Rows && !unitary(get(impl.MulMatrix(u, v))) {
				t.Error("the product is not unitary:", u, v)
			}
			if !unitary(get(impl.Kron(u, v))) {
				t.Error("the Kronecker product is not unitary:", u, v)
			}
		}
	}
}

// TestMatrixLeastExpIsLeast multiplies by the square root of 2 until all cells are integral.
func TestMatrixLeastExpIsLeast(t *testing.T) {
	get := mustMatrix(t)
	root := dyadic(ring(0, 1, 0, -1), 0)
	for _, m := range append(lawMatrices(), unitaries(t)...) {
		least, ok := impl.LeastExp(m)
		for k := least; k > 0; k-- {
			got, fine := impl.LeastExp(m)
			checkNumber(t, "LeastExp", got, ok && fine, k)
			m = get(impl.ScaleMatrix(m, root))
		}
		got, ok := impl.LeastExp(m)
		checkNumber(t, "LeastExp in the end", got, ok, 0)
	}
}
