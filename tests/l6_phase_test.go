package tests

import (
	"slices"
	"testing"

	"loop.example/g00864/impl"
)

// turned multiplies every cell by w^k, each time by moving the coefficients, where w^4 = -1.
func turned(m impl.Matrix, k int) impl.Matrix {
	cells := slices.Clone(m.Cells)
	for range k {
		for i, x := range cells {
			cells[i].Num = ring(-x.Num.D, x.Num.A, x.Num.B, x.Num.C)
		}
	}
	return matrix(m.Rows, m.Cols, cells...)
}

func isZero(m impl.Matrix) bool {
	return !slices.ContainsFunc(m.Cells, func(x impl.Dyadic) bool { return x != impl.Dyadic{} })
}

// phaseMatrices are valid matrices of all shapes, some with cells that just meet a limit.
func phaseMatrices(t *testing.T) []impl.Matrix {
	list := append(lawMatrices(), unitaries(t)...)
	for _, rows := range validDims() {
		for _, cols := range validDims() {
			list = append(list, filled(rows, cols, rootHalf), sampleMatrix(rows, cols, 30, 4))
		}
	}
	for _, x := range validDyadics() {
		list = append(list, filled(1, 1, x), filled(2, 4, x), matrix(1, 2, x, whole(0)), matrix(2, 1, whole(0), x))
	}
	return list
}

func TestEqualUpToEachPhase(t *testing.T) {
	for _, m := range phaseMatrices(t) {
		for k := range 8 {
			want, back := k, (8-k)%8
			if isZero(m) {
				want, back = 0, 0
			}
			got, is, ok := impl.EqualUpToPhase(turned(m, k), m)
			checkPhase(t, "a multiple in front", got, is, ok, want)
			got, is, ok = impl.EqualUpToPhase(m, turned(m, k))
			checkPhase(t, "a multiple behind", got, is, ok, back)
		}
	}
}

// TestEqualUpToPhaseOfZeros has matrices that are equal up to each phase.
func TestEqualUpToPhaseOfZeros(t *testing.T) {
	for _, rows := range validDims() {
		for _, cols := range validDims() {
			zero := filled(rows, cols, whole(0))
			k, is, ok := impl.EqualUpToPhase(zero, filled(rows, cols, whole(0)))
			checkPhase(t, "zeros", k, is, ok, 0)
			one := filled(rows, cols, whole(0))
			one.Cells[len(one.Cells)-1] = omega
			k, is, ok = impl.EqualUpToPhase(zero, one)
			checkNoPhase(t, "zeros and one other cell", k, is, ok, true)
			k, is, ok = impl.EqualUpToPhase(one, zero)
			checkNoPhase(t, "one other cell and zeros", k, is, ok, true)
		}
	}
}

// TestEqualUpToPhaseOfTwoCells compares any two of many small matrices, and finds the least phase by trying all.
func TestEqualUpToPhaseOfTwoCells(t *testing.T) {
	var list []impl.Matrix
	numbers := []impl.Dyadic{whole(0), whole(2), rootHalf, dyadic(ring(1, 1, 0, 0), 0), dyadic(ring(1, -1, 0, 0), 0)}
	for k := range 8 {
		numbers = append(numbers, powerOfOmega(k))
	}
	for _, x := range numbers {
		for _, y := range numbers {
			list = append(list, matrix(2, 1, x, y))
		}
	}
	for _, a := range list {
		for _, b := range list {
			want := slices.IndexFunc([]int{0, 1, 2, 3, 4, 5, 6, 7}, func(k int) bool { return sameMatrix(a, turned(b, k)) })
			k, is, ok := impl.EqualUpToPhase(a, b)
			if want >= 0 {
				checkPhase(t, "two cells", k, is, ok, want)
			} else {
				checkNoPhase(t, "two cells", k, is, ok, true)
			}
		}
	}
}

// TestEqualUpToPhaseWithOneOtherCell changes each cell, or some of many, of matrices with at least two cells that are not 0.
func TestEqualUpToPhaseWithOneOtherCell(t *testing.T) {
	for _, m := range []impl.Matrix{hadamard(), filled(1, 2, omega), filled(2, 1, whole(5)), identity(4), filled(4, 2, rootHalf), identity(32), filled(1, 32, plusI)} {
		for at, x := range m.Cells {
			for _, y := range []impl.Dyadic{whole(0), whole(1), whole(-1), omega, minusI, rootHalf, whole(7), dyadic(ring(1, 0, 0, 0), 2), dyadic(ring(0, 0, 0, 1), 60)} {
				if x == y || len(m.Cells) > 64 && at%31 > 1 {
					continue
				}
				changed := matrix(m.Rows, m.Cols, slices.Clone(m.Cells)...)
				changed.Cells[at] = y
				for k := 0; k < 8; k += 3 {
					got, is, ok := impl.EqualUpToPhase(turned(changed, k), m)
					checkNoPhase(t, "another cell in front", got, is, ok, true)
					got, is, ok = impl.EqualUpToPhase(m, turned(changed, k))
					checkNoPhase(t, "another cell behind", got, is, ok, true)
				}
			}
		}
	}
}

func TestEqualUpToPhaseOfOtherMatrices(t *testing.T) {
	get := mustMatrix(t)
	for _, m := range unitaries(t) {
		for what, other := range map[string]impl.Matrix{
			"twice the matrix":  get(impl.ScaleMatrix(m, whole(2))),
			"a smaller matrix":  get(impl.ScaleMatrix(m, rootHalf)),
			"root 2 times it":   get(impl.ScaleMatrix(m, dyadic(ring(0, 1, 0, -1), 0))),
			"1 + w times it":    get(impl.ScaleMatrix(m, dyadic(ring(1, 1, 0, 0), 0))),
			"the sum with 0, i": get(impl.AddMatrix(m, filled(m.Rows, m.Cols, dyadic(ring(3, 0, 3, 0), 0)))),
		} {
			k, is, ok := impl.EqualUpToPhase(other, m)
			checkNoPhase(t, what, k, is, ok, true)
			k, is, ok = impl.EqualUpToPhase(m, other)
			checkNoPhase(t, what, k, is, ok, true)
		}
	}
	for _, pair := range [][2]impl.Matrix{{phases(0, 1), phases(1, 0)}, {phases(0, 1), phases(0, 7)}, {permutation(0, 1, 3, 2), permutation(0, 3, 2, 1)}, {phases(0, 4), permutation(1, 0)}} {
		k, is, ok := impl.EqualUpToPhase(pair[0], pair[1])
		checkNoPhase(t, "other operators", k, is, ok, true)
	}
}

// TestEqualUpToPhaseOfShapes has the same cells in matrices of other dimensions, which are valid, too.
func TestEqualUpToPhaseOfShapes(t *testing.T) {
	var list []impl.Matrix
	for _, rows := range validDims() {
		for _, cols := range validDims() {
			list = append(list, filled(rows, cols, whole(0)), filled(rows, cols, omega))
		}
	}
	for _, a := range list {
		for _, b := range list {
			if a.Rows == b.Rows && a.Cols == b.Cols {
				continue
			}
			k, is, ok := impl.EqualUpToPhase(a, b)
			checkNoPhase(t, "other dimensions", k, is, ok, true)
		}
	}
	for _, n := range validDims()[:5] {
		k, is, ok := impl.EqualUpToPhase(identity(n), identity(2*n))
		checkNoPhase(t, "identities of other dimensions", k, is, ok, true)
	}
}

func TestEqualUpToPhaseInvalid(t *testing.T) {
	partners := []impl.Matrix{wholeMatrix(1, 1, 1), wholeMatrix(1, 1, 0), identity(2), filled(4, 1, whole(0)), {}}
	for _, m := range invalidMatrices() {
		k, is, ok := impl.EqualUpToPhase(m, m)
		checkNoPhase(t, "a matrix that is not valid twice", k, is, ok, false)
		for _, other := range partners {
			k, is, ok = impl.EqualUpToPhase(m, other)
			checkNoPhase(t, "a matrix that is not valid in front", k, is, ok, false)
			k, is, ok = impl.EqualUpToPhase(other, m)
			checkNoPhase(t, "a matrix that is not valid behind", k, is, ok, false)
		}
	}
}

// phased puts GtW behind the gates of a circuit.
func phased(c impl.Circuit, count int) impl.Circuit {
	return circuit(c.Qubits, slices.Concat(c.Gates, slices.Repeat([]impl.Gate{gate(impl.GtW, 0, 0)}, count))...)
}

func TestSameOperatorUpToEachPhase(t *testing.T) {
	get := mustMatrix(t)
	for n := 1; n <= maxQubits; n++ {
		for _, c := range []impl.Circuit{circuit(n), sampleCircuit(n, 20, n), circuit(n, validGates(n)...)} {
			for k := range 10 {
				same, ok := impl.SameOperator(phased(c, k), c)
				checkAnswer(t, "SameOperator with phases in front", same, ok, true, true)
				same, ok = impl.SameOperator(c, phased(c, k))
				checkAnswer(t, "SameOperator with phases behind", same, ok, true, true)
				power, is, ok := impl.EqualUpToPhase(get(impl.OperatorOf(phased(c, k))), get(impl.OperatorOf(c)))
				checkPhase(t, "operators with phases", power, is, ok, k%8)
				other := phased(c, k)
				other.Gates = append(other.Gates, gate(impl.GtT, n-1, 0))
				same, ok = impl.SameOperator(c, other)
				checkAnswer(t, "SameOperator with one T more", same, ok, false, true)
			}
		}
	}
}

// TestSameOperatorOfAnyTwoGates holds SameOperator against the matrices that are found by the bits.
func TestSameOperatorOfAnyTwoGates(t *testing.T) {
	for n := 1; n <= 3; n++ {
		for _, a := range validGates(n) {
			for _, b := range validGates(n) {
				want := false
				for k := range 8 {
					want = want || sameMatrix(placedMatrix(n, a), turned(placedMatrix(n, b), k))
				}
				same, ok := impl.SameOperator(circuit(n, a), circuit(n, b))
				checkAnswer(t, "SameOperator of two gates", same, ok, want, true)
			}
		}
	}
}

func TestSameOperatorOrdinary(t *testing.T) {
	cases := []struct {
		n           int
		left, right []string
		want        bool
	}{
		{1, []string{"H 0", "X 0", "H 0"}, []string{"Z 0"}, true},
		{1, []string{"X 0", "Z 0"}, []string{"Y 0"}, true},
		{1, []string{"X 0", "T 0", "X 0"}, []string{"T' 0"}, true},
		{1, []string{"T 0"}, []string{"T' 0"}, false},
		{1, []string{"H 0", "T 0"}, []string{"T 0", "H 0"}, false},
		{2, []string{"H 1", "CZ 0 1", "H 1"}, []string{"CX 0 1"}, true},
		{2, []string{"CX 0 1"}, []string{"CX 1 0"}, false},
		{2, []string{"H 0"}, []string{"H 1"}, false},
		{3, []string{"CX 0 1", "CX 1 2", "CX 0 1", "CX 1 2"}, []string{"CX 0 2"}, true},
		{5, []string{"SWAP 0 4", "X 0", "SWAP 4 0", "W"}, []string{"X 4"}, true},
		{5, []string{"X 3"}, []string{"X 4"}, false},
	}
	for _, c := range cases {
		same, ok := impl.SameOperator(circuitOf(c.n, c.left...), circuitOf(c.n, c.right...))
		checkAnswer(t, "SameOperator", same, ok, c.want, true)
	}
}

func TestSameOperatorNumbersOfQubits(t *testing.T) {
	for n := 0; n <= maxQubits+1; n++ {
		for m := 0; m <= maxQubits+1; m++ {
			for _, gates := range [][]impl.Gate{nil, {gate(impl.GtH, 0, 0)}, {gate(impl.GtW, 0, 0)}} {
				fine := n == m && n >= 1 && n <= maxQubits
				same, ok := impl.SameOperator(circuit(n, gates...), circuit(m, gates...))
				checkAnswer(t, "SameOperator", same, ok, fine, fine)
			}
		}
	}
}

func TestIsPhaseOrdinary(t *testing.T) {
	for n := 1; n <= maxQubits; n++ {
		for count := range 26 {
			k, is, ok := impl.IsPhase(phased(circuit(n), count))
			checkPhase(t, "IsPhase of GtW", k, is, ok, count%8)
			k, is, ok = impl.IsPhase(phased(circuit(n, gate(impl.GtX, n-1, 0)), count))
			checkNoPhase(t, "IsPhase of X and GtW", k, is, ok, true)
		}
		for _, g := range validGates(n) {
			k, is, ok := impl.IsPhase(circuit(n, g))
			if g.Kind == impl.GtW {
				checkPhase(t, "IsPhase of GtW", k, is, ok, 1)
			} else {
				checkNoPhase(t, "IsPhase of one gate", k, is, ok, true)
			}
		}
	}
	cases := []struct {
		n     int
		gates []string
		want  int
	}{
		{1, []string{"T 0", "X 0", "T 0", "X 0"}, 1},
		{1, []string{"H 0", "S 0", "H 0", "S 0", "H 0", "S 0"}, 1},
		{1, []string{"S 0", "X 0", "S 0", "X 0"}, 2},
		{1, []string{"T 0", "X 0", "S 0", "T 0", "X 0", "S' 0", "X 0", "S 0", "X 0", "S 0"}, -1},
		{2, []string{"X 0", "Z 0", "X 0", "Z 0"}, 4},
		{3, []string{"X 2", "Y 2", "Z 2"}, 6},
		{3, []string{"Z 1", "Y 1", "X 1"}, 2},
		{5, []string{"S' 4", "X 4", "S' 4", "X 4", "W", "W", "W", "W", "W"}, 3},
		{2, []string{"T' 1", "X 1", "T' 1", "X 1"}, 7},
		{2, []string{"CZ 0 1", "Z 0"}, -1},
		{2, []string{"CX 0 1", "CX 1 0", "CX 0 1", "SWAP 1 0"}, 0},
		{2, []string{"CX 0 1", "CX 1 0", "CX 0 1"}, -1},
	}
	for _, c := range cases {
		k, is, ok := impl.IsPhase(circuitOf(c.n, c.gates...))
		if c.want >= 0 {
			checkPhase(t, "IsPhase", k, is, ok, c.want)
		} else {
			checkNoPhase(t, "IsPhase", k, is, ok, true)
		}
	}
}
