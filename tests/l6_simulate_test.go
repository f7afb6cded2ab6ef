package tests

import (
	"math/bits"
	"slices"
	"testing"

	"loop.example/g00864/impl"
)

// bitOf returns the bit of qubit q in the number of a basis state of n qubits, in which qubit 0 is the first binary digit.
func bitOf(n int, state int, q int) int { return state >> (n - 1 - q) & 1 }

// bitsOf returns the number with the bits of the listed qubits as binary digits.
func bitsOf(n int, state int, qubits []int) int {
	number := 0
	for _, q := range qubits {
		number = 2*number + bitOf(n, state, q)
	}
	return number
}

// placedMatrix finds the matrix of a gate cell by cell from the matrix of its kind and the bits of the basis states.
func placedMatrix(n int, g impl.Gate) impl.Matrix {
	small := kindMatrix(g.Kind)
	inside := []int{g.A, g.B}[:bits.Len(uint(small.Rows))-1]
	outside := slices.DeleteFunc([]int{0, 1, 2, 3, 4}[:n], func(q int) bool { return slices.Contains(inside, q) })
	m := filled(1<<n, 1<<n, whole(0))
	for row := range m.Rows {
		for col := range m.Cols {
			if bitsOf(n, row, outside) == bitsOf(n, col, outside) {
				m.Cells[row*m.Cols+col] = small.Cells[bitsOf(n, row, inside)*small.Cols+bitsOf(n, col, inside)]
			}
		}
	}
	return m
}

// powerOfOmega returns w^k for k from 0 to 7.
func powerOfOmega(k int) impl.Dyadic {
	return []impl.Dyadic{whole(1), omega, plusI, cube, whole(-1), dyadic(ring(0, -1, 0, 0), 0), minusI, minusCube}[k]
}

// halves divides integers by a power of the square root of 2.
func halves(exp int, numbers ...int) []impl.Dyadic {
	cells := wholeMatrix(1, len(numbers), numbers...).Cells
	for i, x := range cells {
		if x.Num.A != 0 {
			cells[i].Exp = exp
		}
	}
	return cells
}

// permutation maps basis state k to the k-th of the images.
func permutation(images ...int) impl.Matrix {
	m := filled(len(images), len(images), whole(0))
	for k, image := range images {
		m.Cells[image*len(images)+k] = whole(1)
	}
	return m
}

// phases multiplies basis state k by w to the power of the k-th exponent.
func phases(exps ...int) impl.Matrix {
	m := identity(len(exps))
	for k, exp := range exps {
		m.Cells[k*len(exps)+k] = powerOfOmega(exp)
	}
	return m
}

// checkPhase is for EqualUpToPhase and IsPhase if they succeed and find a phase.
func checkPhase(t *testing.T, what string, k int, is bool, ok bool, want int) {
	t.Helper()
	if k != want || !is || !ok {
		t.Errorf("%s: got %d, %v, %v, want %d", what, k, is, ok, want)
	}
}

// checkNoPhase checks that there is no phase, or, if the call fails, no answer.
func checkNoPhase(t *testing.T, what string, k int, is bool, ok bool, succeeds bool) {
	t.Helper()
	if k != 0 || is || ok != succeeds {
		t.Errorf("%s: got %d, %v, %v, want 0, false, %v", what, k, is, ok, succeeds)
	}
}

func TestSimulationExample(t *testing.T) {
	c := circuitOf(1, "H 0", "T 0")
	state, ok := impl.StateAfter(c, 0)
	checkMatrix(t, "StateAfter", state, ok, matrix(2, 1, rootHalf, dyadic(ring(0, 1, 0, 0), 1)))
	weight, ok := impl.OutcomeWeight(c, 0, 1)
	checkDyadic(t, "OutcomeWeight", weight, ok, dyadic(ring(1, 0, 0, 0), 2))
	same, ok := impl.SameOperator(circuitOf(1, "H 0", "X 0", "H 0"), circuitOf(1, "Z 0"))
	checkAnswer(t, "H X H and Z", same, ok, true, true)
	k, is, ok := impl.IsPhase(circuitOf(1, "W"))
	checkPhase(t, "W", k, is, ok, 1)
	k, is, ok = impl.IsPhase(circuitOf(1, "S 0", "S 0", "Z 0"))
	checkPhase(t, "S S Z", k, is, ok, 0)
	same, ok = impl.SameOperator(circuitOf(1, "X 0"), circuitOf(1, "Z 0"))
	checkAnswer(t, "X and Z", same, ok, false, true)
}

func TestGateMatrixOfEveryGate(t *testing.T) {
	for n := 1; n <= maxQubits; n++ {
		for _, g := range validGates(n) {
			got, ok := impl.GateMatrix(n, g)
			checkMatrix(t, "GateMatrix", got, ok, placedMatrix(n, g))
		}
	}
}

func TestGateMatrixInFull(t *testing.T) {
	cases := []struct {
		n    int
		gate string
		want impl.Matrix
	}{
		{1, "H 0", hadamard()},
		{1, "X 0", wholeMatrix(2, 2, 0, 1, 1, 0)},
		{1, "Y 0", matrix(2, 2, whole(0), minusI, plusI, whole(0))},
		{1, "Z 0", phases(0, 4)},
		{1, "S 0", phases(0, 2)},
		{1, "S' 0", phases(0, 6)},
		{1, "T 0", phases(0, 1)},
		{1, "T' 0", phases(0, 7)},
		{1, "W", phases(1, 1)},
		{2, "H 0", matrix(4, 4, halves(1, 1, 0, 1, 0, 0, 1, 0, 1, 1, 0, -1, 0, 0, 1, 0, -1)...)},
		{2, "H 1", matrix(4, 4, halves(1, 1, 1, 0, 0, 1, -1, 0, 0, 0, 0, 1, 1, 0, 0, 1, -1)...)},
		{2, "T 0", phases(0, 0, 1, 1)},
		{2, "S' 1", phases(0, 6, 0, 6)},
		{2, "CX 0 1", permutation(0, 1, 3, 2)},
		{2, "CX 1 0", permutation(0, 3, 2, 1)},
		{2, "CZ 1 0", phases(0, 0, 0, 4)},
		{2, "SWAP 1 0", permutation(0, 2, 1, 3)},
		{3, "X 0", permutation(4, 5, 6, 7, 0, 1, 2, 3)},
		{3, "X 2", permutation(1, 0, 3, 2, 5, 4, 7, 6)},
		{3, "Z 1", phases(0, 0, 4, 4, 0, 0, 4, 4)},
		{3, "CX 2 0", permutation(0, 5, 2, 7, 4, 1, 6, 3)},
		{3, "CX 0 2", permutation(0, 1, 2, 3, 5, 4, 7, 6)},
		{3, "CZ 0 2", phases(0, 0, 0, 0, 0, 4, 0, 4)},
		{3, "SWAP 0 2", permutation(0, 4, 2, 6, 1, 5, 3, 7)},
		{3, "W", phases(1, 1, 1, 1, 1, 1, 1, 1)},
		{4, "T' 3", phases(0, 7, 0, 7, 0, 7, 0, 7, 0, 7, 0, 7, 0, 7, 0, 7)},
		{4, "CX 3 1", permutation(0, 5, 2, 7, 4, 1, 6, 3, 8, 13, 10, 15, 12, 9, 14, 11)},
	}
	for _, c := range cases {
		got, ok := impl.GateMatrix(c.n, circuitOf(c.n, c.gate).Gates[0])
		checkMatrix(t, "GateMatrix of "+c.gate, got, ok, c.want)
	}
}

// TestGateMatrixAsKroneckerProduct has identities for the qubits before and behind that of the gate.
func TestGateMatrixAsKroneckerProduct(t *testing.T) {
	get := mustMatrix(t)
	for n := 1; n <= maxQubits; n++ {
		for kind := impl.GtH; kind <= impl.GtTdg; kind++ {
			for q := range n {
				want := get(impl.Kron(get(impl.Kron(identity(1<<q), kindMatrix(kind))), identity(1<<(n-1-q))))
				got, ok := impl.GateMatrix(n, gate(kind, q, 0))
				checkMatrix(t, "GateMatrix", got, ok, want)
			}
		}
	}
}

func TestOperatorsInFull(t *testing.T) {
	cases := []struct {
		c    impl.Circuit
		want impl.Matrix
	}{
		{circuitOf(1, "H 0", "T 0"), matrix(2, 2, rootHalf, rootHalf, dyadic(ring(0, 1, 0, 0), 1), dyadic(ring(0, -1, 0, 0), 1))},
		{circuitOf(1, "T 0", "H 0"), matrix(2, 2, rootHalf, dyadic(ring(0, 1, 0, 0), 1), rootHalf, dyadic(ring(0, -1, 0, 0), 1))},
		{circuitOf(1, "X 0", "S 0"), matrix(2, 2, whole(0), whole(1), plusI, whole(0))},
		{circuitOf(1, "S 0", "X 0"), matrix(2, 2, whole(0), plusI, whole(1), whole(0))},
		{circuitOf(1, "W", "W", "W"), phases(3, 3)},
		{circuitOf(2, "H 0", "CX 0 1"), matrix(4, 4, halves(1, 1, 0, 1, 0, 0, 1, 0, 1, 0, 1, 0, -1, 1, 0, -1, 0)...)},
		{circuitOf(2, "CX 0 1", "H 0"), matrix(4, 4, halves(1, 1, 0, 0, 1, 0, 1, 1, 0, 1, 0, 0, -1, 0, 1, -1, 0)...)},
		{circuitOf(2, "H 1", "H 0"), matrix(4, 4, halves(2, 1, 1, 1, 1, 1, -1, 1, -1, 1, 1, -1, -1, 1, -1, -1, 1)...)},
		{circuitOf(2, "T 0", "S 1"), phases(0, 2, 1, 3)},
		{circuitOf(3, "CX 0 1", "CX 1 2"), permutation(0, 1, 3, 2, 7, 6, 4, 5)},
		{circuitOf(3, "CX 1 2", "CX 0 1"), permutation(0, 1, 3, 2, 6, 7, 5, 4)},
		{circuitOf(3, "SWAP 0 1", "SWAP 1 2"), permutation(0, 2, 4, 6, 1, 3, 5, 7)},
	}
	for _, c := range cases {
		got, ok := impl.OperatorOf(c.c)
		checkMatrix(t, "OperatorOf", got, ok, c.want)
	}
	for n := 1; n <= maxQubits; n++ {
		got, ok := impl.OperatorOf(circuit(n))
		checkMatrix(t, "OperatorOf without gates", got, ok, identity(1<<n))
	}
}

func TestStatesInFull(t *testing.T) {
	pair := func(a impl.Dyadic, b impl.Dyadic) impl.Matrix { return matrix(2, 1, a, b) }
	over := func(a, b, c, d int) impl.Dyadic { return dyadic(ring(a, b, c, d), 1) }
	cases := []struct {
		c     impl.Circuit
		start int
		want  impl.Matrix
	}{
		{circuitOf(1, "H 0", "T 0"), 1, pair(rootHalf, over(0, -1, 0, 0))},
		{circuitOf(1, "T 0", "H 0"), 1, pair(over(0, 1, 0, 0), over(0, -1, 0, 0))},
		{circuitOf(1, "H 0", "S' 0", "W"), 0, pair(over(0, 1, 0, 0), over(0, 0, 0, -1))},
		{circuitOf(1, "Y 0"), 0, pair(whole(0), plusI)},
		{circuitOf(1, "Y 0"), 1, pair(minusI, whole(0))},
		{circuitOf(1, "H 0", "T 0", "H 0"), 0, pair(dyadic(ring(1, 1, 0, 0), 2), dyadic(ring(1, -1, 0, 0), 2))},
		{circuitOf(2, "X 0"), 0, matrix(4, 1, halves(0, 0, 0, 1, 0)...)},
		{circuitOf(2, "H 0", "CX 0 1"), 0, matrix(4, 1, halves(1, 1, 0, 0, 1)...)},
		{circuitOf(2, "H 0", "CX 0 1"), 1, matrix(4, 1, halves(1, 0, 1, 1, 0)...)},
		{circuitOf(2, "H 0", "CX 0 1"), 2, matrix(4, 1, halves(1, 1, 0, 0, -1)...)},
		{circuitOf(2, "H 0", "CX 0 1"), 3, matrix(4, 1, halves(1, 0, 1, -1, 0)...)},
		{circuitOf(3, "H 0", "CX 0 1", "CX 1 2", "Z 2"), 0, matrix(8, 1, halves(1, 1, 0, 0, 0, 0, 0, 0, -1)...)},
		{circuitOf(3, "X 2", "SWAP 2 0"), 0, matrix(8, 1, halves(0, 0, 0, 0, 0, 1, 0, 0, 0)...)},
	}
	for _, c := range cases {
		got, ok := impl.StateAfter(c.c, c.start)
		checkMatrix(t, "StateAfter", got, ok, c.want)
	}
	for q := range maxQubits {
		want := filled(32, 1, whole(0))
		want.Cells[[]int{16, 8, 4, 2, 1}[q]] = whole(1)
		got, ok := impl.StateAfter(circuit(5, gate(impl.GtX, q, 0)), 0)
		checkMatrix(t, "StateAfter X", got, ok, want)
	}
}

func TestWeightsInFull(t *testing.T) {
	half, more, less := dyadic(ring(1, 0, 0, 0), 2), dyadic(ring(1, 1, 0, -1), 3), dyadic(ring(-1, 1, 0, -1), 3)
	cases := []struct {
		c      impl.Circuit
		start  int
		ends   []impl.Dyadic
		qubits []impl.Dyadic
	}{
		{circuitOf(1), 0, halves(0, 1, 0), halves(0, 0)},
		{circuitOf(1), 1, halves(0, 0, 1), halves(0, 1)},
		{circuitOf(1, "H 0", "T 0"), 1, halves(2, 1, 1), halves(2, 1)},
		{circuitOf(1, "H 0", "T 0", "H 0"), 0, []impl.Dyadic{more, less}, []impl.Dyadic{less}},
		{circuitOf(1, "H 0", "T 0", "H 0"), 1, []impl.Dyadic{less, more}, []impl.Dyadic{more}},
		{circuitOf(2, "X 0"), 0, halves(0, 0, 0, 1, 0), halves(0, 1, 0)},
		{circuitOf(2, "X 0"), 1, halves(0, 0, 0, 0, 1), halves(0, 1, 1)},
		{circuitOf(2, "H 0", "CX 0 1"), 0, halves(2, 1, 0, 0, 1), halves(2, 1, 1)},
		{circuitOf(2, "H 1", "X 0"), 0, halves(2, 0, 0, 1, 1), []impl.Dyadic{whole(1), half}},
		{circuitOf(2, "H 0", "H 1"), 3, halves(4, 1, 1, 1, 1), halves(2, 1, 1)},
		{circuitOf(3, "X 1", "H 2"), 0, halves(2, 0, 0, 1, 1, 0, 0, 0, 0), []impl.Dyadic{whole(0), whole(1), half}},
		{circuitOf(3, "H 0", "T 0", "H 0", "CX 0 2"), 2, []impl.Dyadic{{}, {}, more, {}, {}, {}, {}, less}, []impl.Dyadic{less, whole(1), less}},
	}
	for _, c := range cases {
		for end, want := range c.ends {
			got, ok := impl.OutcomeWeight(c.c, c.start, end)
			checkDyadic(t, "OutcomeWeight", got, ok, want)
		}
		for q, want := range c.qubits {
			got, ok := impl.QubitWeight(c.c, c.start, q)
			checkDyadic(t, "QubitWeight", got, ok, want)
		}
	}
}

func TestControlledInFull(t *testing.T) {
	cases := []struct {
		what string
		m    impl.Matrix
		want impl.Matrix
	}{
		{"-1", wholeMatrix(1, 1, -1), phases(0, 4)},
		{"w", matrix(1, 1, omega), phases(0, 1)},
		{"0", wholeMatrix(1, 1, 0), wholeMatrix(2, 2, 1, 0, 0, 0)},
		{"X", permutation(1, 0), permutation(0, 1, 3, 2)},
		{"Z", phases(0, 4), phases(0, 0, 0, 4)},
		{"H", hadamard(), matrix(4, 4, append(wholeMatrix(2, 4, 1, 0, 0, 0, 0, 1, 0, 0).Cells, append(halves(1, 0, 0, 1, 1), halves(1, 0, 0, 1, -1)...)...)...)},
		{"a matrix that is not unitary", wholeMatrix(2, 2, 2, 3, 5, 7), wholeMatrix(4, 4, 1, 0, 0, 0, 0, 1, 0, 0, 0, 0, 2, 3, 0, 0, 5, 7)},
		{"CX", permutation(0, 1, 3, 2), permutation(0, 1, 2, 3, 4, 5, 7, 6)},
		{"SWAP", permutation(0, 2, 1, 3), permutation(0, 1, 2, 3, 4, 6, 5, 7)},
	}
	for _, c := range cases {
		got, ok := impl.ControlledOf(c.m)
		checkMatrix(t, "ControlledOf "+c.what, got, ok, c.want)
	}
}
