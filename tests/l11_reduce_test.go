package tests

import (
	"testing"

	"loop.example/g00864/impl"
)

// over divides numbers by a power of the square root of 2; 0 remains 0.
func over(exp int, numbers ...impl.Ring) impl.Matrix {
	var cells []impl.Dyadic
	for _, x := range numbers {
		if x == (impl.Ring{}) {
			cells = append(cells, whole(0))
		} else {
			cells = append(cells, dyadic(x, exp))
		}
	}
	return vector(cells...)
}

func checkColumnInFull(t *testing.T, v impl.Matrix, from int, want ...impl.TwoLevel) {
	t.Helper()
	got, ok := impl.ReduceColumn(v, from)
	checkOperators(t, "ReduceColumn", got, ok, want...)
}

// checkColumn compares the operators with those of the reference, and applies them in order.
func checkColumn(t *testing.T, v impl.Matrix, from int) []impl.TwoLevel {
	t.Helper()
	got, ok := impl.ReduceColumn(v, from)
	checkOperators(t, "ReduceColumn", got, ok, plainOperators(tableOf(v), from)...)
	for _, o := range got {
		if !impl.IsValidTwoLevel(v.Rows, o) || o.I < from {
			t.Error("an operator for", v, from, "is", o)
		}
	}
	checkMatrixLaw(t, "the operators applied in order", multiplied(t, v, got), basis(v.Rows, from))
	return got
}

func checkNotColumn(t *testing.T, v impl.Matrix, from int) {
	t.Helper()
	got, ok := impl.ReduceColumn(v, from)
	checkNoOperators(t, "ReduceColumn", got, ok)
}

// firstRow returns the first row with a cell that is not 0.
func firstRow(v impl.Matrix) int {
	row := 0
	for v.Cells[row] == whole(0) {
		row++
	}
	return row
}

func TestReduceColumnInFull(t *testing.T) {
	h := rootHalf
	zero, one := whole(0), whole(1)
	hw := dyadic(ring(0, 1, 0, 0), 1)
	checkColumnInFull(t, vector(h, h), 0, mixOf(0, 1, 0))
	checkColumnInFull(t, vector(h, hw), 0, mixOf(0, 1, 3), exchangeOf(0, 1))
	checkColumnInFull(t, vector(hw, h), 0, mixOf(0, 1, 1), turnOf(0, 7))
	checkColumnInFull(t, vector(one, zero), 0)
	checkColumnInFull(t, vector(zero, one), 0, exchangeOf(0, 1))
	checkColumnInFull(t, vector(zero, one), 1)
	checkColumnInFull(t, vector(zero, omega), 0, exchangeOf(0, 1), turnOf(0, 7))
	checkColumnInFull(t, vector(zero, omega), 1, turnOf(1, 7))
	checkColumnInFull(t, vector(minusI, zero), 0, turnOf(0, 2))
	for from, list := range [][]impl.TwoLevel{{mixOf(2, 3, 3), exchangeOf(0, 3)}, {mixOf(2, 3, 3), exchangeOf(1, 3)}, {mixOf(2, 3, 3), exchangeOf(2, 3)}} {
		checkColumnInFull(t, vector(zero, zero, h, hw), from, list...)
	}
	checkColumnInFull(t, vector(filled(4, 1, dyadic(ring(1, 0, 0, 0), 2)).Cells...), 0, mixOf(0, 1, 0), mixOf(2, 3, 0), mixOf(0, 2, 0))
	checkColumnInFull(t, vector(zero, h, zero, zero, zero, zero, zero, h), 1, mixOf(1, 7, 0))
}

// TestReduceColumnChoosesPairs has vectors with cells of both types, in which those of type 2 come first.
func TestReduceColumnChoosesPairs(t *testing.T) {
	one, plus, minus, three := ring(1, 0, 0, 0), ring(1, 1, 0, 0), ring(1, -1, 0, 0), ring(1, 1, 1, 0)
	checkColumnInFull(t, over(3, minus, three, minus, one), 0,
		mixOf(1, 3, 3), mixOf(0, 1, 3), mixOf(2, 3, 0), mixOf(0, 1, 1), mixOf(2, 3, 3), mixOf(1, 2, 1), exchangeOf(0, 2), turnOf(0, 3))
	checkColumnInFull(t, over(3, plus, minus, one, one, one, one, impl.Ring{}, impl.Ring{}), 0,
		mixOf(2, 3, 0), mixOf(4, 5, 0), mixOf(0, 1, 0), mixOf(0, 1, 3), mixOf(2, 4, 0), mixOf(1, 2, 0), exchangeOf(0, 1))
	checkColumnInFull(t, over(2, plus, minus), 0, mixOf(0, 1, 0), mixOf(0, 1, 3), exchangeOf(0, 1))
	first := map[int]impl.Matrix{3: over(3, minus, three, one, minus), 2: over(3, minus, one, minus, three), 1: over(3, three, minus, minus, one), 0: over(3, minus, plus, impl.Ring{}, ring(0, 0, 2, 0))}
	wants := map[int]impl.TwoLevel{3: mixOf(1, 2, 3), 2: mixOf(1, 3, 1), 1: mixOf(0, 3, 3), 0: mixOf(0, 1, 0)}
	first[0].Cells[3] = dyadic(ring(0, 0, 1, 0), 1)
	for k, v := range first {
		list := checkColumn(t, v, 0)
		if list[0] != wants[k] {
			t.Error("the first operator for", v, "is", list[0])
		}
	}
}

// TestReduceColumnOfPowers has all vectors with a single power of w, and every row at or before it.
func TestReduceColumnOfPowers(t *testing.T) {
	for _, n := range twoLevelDims() {
		for row := range n {
			for power := range 8 {
				v := filled(n, 1, whole(0))
				v.Cells[row] = powerOfOmega(power)
				for from := range n {
					if from > row {
						checkNotColumn(t, v, from)
						continue
					}
					var want []impl.TwoLevel
					if from < row {
						want = append(want, exchangeOf(from, row))
					}
					if power > 0 {
						want = append(want, turnOf(from, 8-power))
					}
					checkColumnInFull(t, v, from, want...)
				}
			}
		}
	}
}

// TestReduceColumnOfCircuits has the columns of operators of circuits, from every row up to the first that is not 0.
func TestReduceColumnOfCircuits(t *testing.T) {
	longest := 0
	for qubits := 1; qubits <= 3; qubits++ {
		for seed := range 12 {
			for _, c := range []impl.Circuit{sampleCircuit(qubits, 5*seed, seed), entangled(qubits, seed, 3*seed)} {
				m := mustMatrix(t)(impl.OperatorOf(c))
				for k := range m.Cols {
					v := mustMatrix(t)(impl.ColumnOf(m, k))
					for from := range firstRow(v) + 1 {
						longest = max(longest, len(checkColumn(t, v, from)))
					}
				}
			}
		}
	}
	if longest < 30 {
		t.Error("all lists are short:", longest)
	}
}

// TestReduceColumnOfProducts has basis vectors that are changed by operators on the rows from each one on.
func TestReduceColumnOfProducts(t *testing.T) {
	for _, n := range twoLevelDims() {
		for first := range n {
			for count := range 16 {
				v := changedBy(t, basis(n, first), first, 2*count, 50*n+first+100*count)
				for from := range firstRow(v) + 1 {
					checkColumn(t, v, from)
				}
				for from := firstRow(v) + 1; from < n; from++ {
					checkNotColumn(t, v, from)
				}
			}
		}
	}
}

// TestReduceColumnAfterOneOperator has every operator and every basis vector.
func TestReduceColumnAfterOneOperator(t *testing.T) {
	for _, n := range twoLevelDims() {
		for k, o := range allOperators(n, 0) {
			v := multiplied(t, basis(n, k%n), []impl.TwoLevel{o})
			checkColumn(t, v, 0)
			checkColumn(t, v, firstRow(v))
		}
	}
}

// longColumns have exponents up to a count of about 36, all with the length 1.
func longColumns(t *testing.T) []impl.Matrix {
	var list []impl.Matrix
	for count := 40; count < 75; count++ {
		for seed := range 3 {
			m := letterOperator(t, normalWord(count, seed))
			list = append(list, mustMatrix(t)(impl.ColumnOf(m, seed%2)))
		}
	}
	for qubits := 2; qubits <= 3; qubits++ {
		for count := 60 * qubits; count < 72*qubits; count += qubits {
			list = append(list, mustMatrix(t)(impl.StateAfter(entangled(qubits, count, count), 1)))
		}
	}
	return list
}

// TestReduceColumnBeyondTheLimits has vectors whose squares sum to 1, though the squares or their sums leave a limit of chapter 2 for some of them.
func TestReduceColumnBeyondTheLimits(t *testing.T) {
	failed, greatest := 0, 0
	list := longColumns(t)
	for _, v := range list {
		if !sumsToOne(tableOf(v)) {
			t.Error("not of length 1:", v)
		}
		if !isWithinLimits(tableOf(v)) {
			failed++
			checkNotColumn(t, v, firstRow(v))
			continue
		}
		greatest = max(greatest, tableOf(v).leastExp())
		checkColumn(t, v, firstRow(v))
	}
	if failed < 20 || failed > len(list)-20 || greatest < 29 {
		t.Error("the cases are not mixed:", failed, len(list), greatest)
	}
}

// checkAnyColumn expects operators exactly if the squares sum to 1.
func checkAnyColumn(t *testing.T, v impl.Matrix, from int) {
	t.Helper()
	if sumsToOne(tableOf(v)) {
		checkColumn(t, v, from)
	} else {
		checkNotColumn(t, v, from)
	}
}

func TestReduceColumnOfGreatNumbers(t *testing.T) {
	for _, x := range append(validDyadics(), dyadic(ring(31623, 0, 0, 0), 0), dyadic(ring(1, 0, 0, 0), 31), dyadic(ring(maxCoef, 1, 0, 0), 59)) {
		for _, n := range twoLevelDims() {
			checkAnyColumn(t, filled(n, 1, x), 0)
			for row := range n {
				v := filled(n, 1, whole(0))
				v.Cells[row] = x
				checkAnyColumn(t, v, row)
				v.Cells[(row+1)%n] = whole(1)
				checkAnyColumn(t, v, 0)
			}
		}
	}
}

// notOfLengthOne are valid vectors.
func notOfLengthOne() []impl.Matrix {
	h, zero, one, quarter := rootHalf, whole(0), whole(1), dyadic(ring(1, 0, 0, 0), 4)
	list := []impl.Matrix{
		vector(zero, zero), vector(one, one), vector(h, zero), vector(h, one), vector(one, h), vector(h, dyadic(ring(1, 0, 0, 0), 2)), vector(whole(2), zero), vector(zero, whole(-3)),
		vector(h, h, h, h), vector(h, h, h, zero), vector(one, zero, zero, h), vector(zero, zero, zero, zero), vector(quarter, quarter, quarter, quarter), over(2, ring(1, 1, 0, 0), ring(1, 1, 0, 0)),
		over(2, ring(1, 1, 0, 0), ring(1, 0, 0, 0), ring(1, 0, 0, 0), impl.Ring{}), over(3, ring(1, 1, 1, 0), ring(1, 1, 1, 0), ring(1, 0, 0, 0), ring(1, 0, 0, 0)),
		vector(dyadic(ring(1, 1, 0, -1), 0), zero), vector(dyadic(ring(0, 1, 0, -1), 0), zero), vector(dyadic(ring(1, 1, 1, 0), 0), zero), vector(dyadic(ring(-1, 1, 0, -1), 0), one),
		filled(8, 1, h), filled(8, 1, dyadic(ring(1, 0, 0, 0), 2)), filled(8, 1, zero), filled(4, 1, dyadic(ring(1, 0, 0, 0), 3)),
	}
	for k := range 4 {
		v := filled(4, 1, dyadic(ring(1, 0, 0, 0), 2))
		v.Cells[k] = []impl.Dyadic{zero, one, h, dyadic(ring(1, 1, 0, 0), 2)}[k]
		list = append(list, v)
	}
	return list
}

func TestReduceColumnOfOtherLengths(t *testing.T) {
	for _, v := range notOfLengthOne() {
		if sumsToOne(tableOf(v)) {
			t.Error("of length 1:", v)
		}
		for from := range v.Rows {
			checkNotColumn(t, v, from)
		}
	}
}

// TestReduceColumnWithCellsBeforeFrom has vectors of length 1, and of length 1 behind the row from.
func TestReduceColumnWithCellsBeforeFrom(t *testing.T) {
	h := rootHalf
	for _, n := range twoLevelDims() {
		for from := 1; from < n; from++ {
			for row := range from {
				v := filled(n, 1, whole(0))
				v.Cells[row], v.Cells[from] = h, h
				checkColumn(t, v, row)
				checkNotColumn(t, v, from)
				v.Cells[row], v.Cells[from] = minusI, whole(1)
				checkNotColumn(t, v, from)
				v.Cells[row] = dyadic(ring(1, 0, 0, 0), maxExp)
				checkNotColumn(t, v, from)
				v.Cells[row] = dyadic(impl.Ring{}, 1)
				checkNotColumn(t, v, from)
			}
		}
	}
}

func TestReduceColumnFromOtherRows(t *testing.T) {
	for _, n := range twoLevelDims() {
		for _, from := range append([]int{-1, -2, n, n + 1, -n, 2 * n, 8, 16}, farInts()...) {
			if from < 0 || from >= n {
				checkNotColumn(t, basis(n, 0), from)
				checkNotColumn(t, basis(n, n-1), from)
				checkNotColumn(t, filled(n, 1, whole(0)), from)
			}
		}
	}
}

func TestReduceColumnOfOtherShapes(t *testing.T) {
	list := append(invalidMatrices(), matrix(1, 1, whole(1)), matrix(1, 2, whole(1), whole(0)), matrix(1, 2, rootHalf, rootHalf), identity(2), identity(4), identity(8), basis(16, 0), basis(32, 0), filled(16, 1, dyadic(ring(1, 0, 0, 0), 4)), filled(1, 8, dyadic(ring(1, 0, 0, 0), 3)))
	list = append(list, filled(4, 4, dyadic(ring(1, 0, 0, 0), 4)), matrix(2, 1, whole(1)), matrix(2, 1, whole(1), whole(0), whole(0)), matrix(4, 1, basis(8, 0).Cells...), matrix(8, 1, basis(4, 0).Cells...), matrix(3, 1, basis(3, 0).Cells...), matrix(6, 1, basis(6, 0).Cells...))
	for _, v := range list {
		for _, from := range []int{0, 1, -1} {
			checkNotColumn(t, v, from)
		}
	}
}

func TestReduceColumnWithInvalidCells(t *testing.T) {
	for k, x := range invalidDyadics() {
		for _, n := range twoLevelDims() {
			v := basis(n, n-1)
			v.Cells[k%(n-1)] = x
			checkNotColumn(t, v, 0)
			checkNotColumn(t, v, n-1)
			v = basis(n, 0)
			v.Cells[1+k%(n-1)] = x
			checkNotColumn(t, v, 0)
		}
	}
	for _, x := range []impl.Dyadic{dyadic(ring(2, 0, 0, 0), 2), dyadic(ring(0, 1, 0, -1), 1), dyadic(impl.Ring{}, 1)} {
		checkNotColumn(t, vector(x, whole(0)), 0)
		checkNotColumn(t, vector(whole(0), x), 1)
		checkNotColumn(t, vector(whole(1), x), 0)
	}
}
