package tests

import (
	"strings"
	"testing"

	"loop.example/g00864/impl"
)

// TestOperatorIsTheProductOfGateMatrices multiplies from the identity on, each gate from the left.
func TestOperatorIsTheProductOfGateMatrices(t *testing.T) {
	get := mustMatrix(t)
	for _, c := range sampleCircuits() {
		want := identity(1 << c.Qubits)
		for _, g := range c.Gates {
			want = get(impl.MulMatrix(get(impl.GateMatrix(c.Qubits, g)), want))
		}
		checkMatrixLaw(t, "the operator is the product", get(impl.OperatorOf(c)), want)
	}
}

func TestOperatorOfOneGate(t *testing.T) {
	get := mustMatrix(t)
	for n := 1; n <= maxQubits; n++ {
		for _, g := range validGates(n) {
			checkMatrixLaw(t, "the operator of one gate", get(impl.OperatorOf(circuit(n, g))), placedMatrix(n, g))
		}
	}
}

func TestOperatorLawsOfConcatenations(t *testing.T) {
	get, kept := mustMatrix(t), mustCircuit(t)
	for n := 1; n <= maxQubits; n++ {
		var operators []impl.Matrix
		for _, c := range lawCircuits(n) {
			operators = append(operators, get(impl.OperatorOf(c)))
		}
		for i, a := range lawCircuits(n) {
			for j, b := range lawCircuits(n) {
				if n > 3 && (i+j)%4 != 1 {
					continue
				}
				both := get(impl.OperatorOf(kept(impl.Concat(a, b))))
				checkMatrixLaw(t, "a concatenation", both, get(impl.MulMatrix(operators[j], operators[i])))
			}
		}
	}
}

func TestOperatorLawsOfInverses(t *testing.T) {
	get, kept := mustMatrix(t), mustCircuit(t)
	for n := 1; n <= maxQubits; n++ {
		for _, c := range lawCircuits(n) {
			inverse := kept(impl.Inverse(c))
			operator, back := get(impl.OperatorOf(c)), get(impl.OperatorOf(inverse))
			checkMatrixLaw(t, "an inverse", back, get(impl.Adjoint(operator)))
			checkMatrixLaw(t, "a circuit and its inverse", get(impl.OperatorOf(kept(impl.Concat(c, inverse)))), identity(1<<n))
			checkMatrixLaw(t, "an inverse and its circuit", get(impl.OperatorOf(kept(impl.Concat(inverse, c)))), identity(1<<n))
			k, is, ok := impl.IsPhase(kept(impl.Concat(inverse, c)))
			checkPhase(t, "IsPhase of an inverse and its circuit", k, is, ok, 0)
		}
	}
}

func TestOperatorsAreUnitary(t *testing.T) {
	for _, c := range sampleCircuits() {
		operator, ok := impl.OperatorOf(c)
		if !ok || operator.Rows != 1<<c.Qubits || operator.Cols != 1<<c.Qubits {
			t.Error("no operator, or one of another shape:", c, operator.Rows, operator.Cols)
		}
		is, ok := impl.IsUnitary(operator)
		checkAnswer(t, "IsUnitary of an operator", is, ok, true, true)
	}
}

// TestStatesAreColumns takes every start.
func TestStatesAreColumns(t *testing.T) {
	get := mustMatrix(t)
	for _, c := range sampleCircuits() {
		operator := get(impl.OperatorOf(c))
		for start := range operator.Cols {
			checkMatrixLaw(t, "a state is a column", get(impl.StateAfter(c, start)), get(impl.ColumnOf(operator, start)))
		}
	}
}

// weightCircuits have few gates, so that sums of weights stay within the limits.
func weightCircuits() []impl.Circuit {
	var list []impl.Circuit
	for n := 1; n <= maxQubits; n++ {
		list = append(list, lawCircuits(n)...)
	}
	return append(list, circuitOf(3, "H 0", "H 1", "H 2", "T 0", "CX 0 1", "T 1", "H 1", "CX 1 2", "T 2", "H 2"), repeatedWord(1, 20, "H 0", "T 0"))
}

// repeatedWord repeats the gates of the texts.
func repeatedWord(n int, count int, texts ...string) impl.Circuit {
	c := circuit(n)
	for range count {
		c.Gates = append(c.Gates, circuitOf(n, texts...).Gates...)
	}
	return c
}

func TestWeightLaws(t *testing.T) {
	get, number := mustMatrix(t), mustDyadic(t)
	for _, c := range weightCircuits() {
		for start := 0; start < 1<<c.Qubits; start += 1 + c.Qubits/4*4 {
			state := get(impl.StateAfter(c, start))
			total, ones := whole(0), make([]impl.Dyadic, c.Qubits)
			for end, amplitude := range state.Cells {
				weight := number(impl.OutcomeWeight(c, start, end))
				checkDyadicLaw(t, "a weight is a square", weight, number(impl.NormSquare(amplitude)))
				if sign, ok := impl.RealSign(weight.Num.A, weight.Num.B); !ok || sign < 0 || weight.Num.C != 0 || weight.Num.D != -weight.Num.B {
					t.Error("a weight is not a real number from 0 on:", weight)
				}
				total = number(impl.AddDyadic(total, weight))
				for q := range ones {
					if bitOf(c.Qubits, end, q) == 1 {
						ones[q] = number(impl.AddDyadic(ones[q], weight))
					}
				}
			}
			checkDyadicLaw(t, "the weights sum to 1", total, whole(1))
			for q, want := range ones {
				checkDyadicLaw(t, "the weight of a qubit", number(impl.QubitWeight(c, start, q)), want)
			}
		}
	}
}

// TestOperatorIdentities has circuits with the same operator, up to the number of GtW in front.
func TestOperatorIdentities(t *testing.T) {
	for _, c := range []struct{ left, right string }{
		{"H 0, H 0", ""}, {"H 0, X 0, H 0", "Z 0"}, {"S 0, S 0", "Z 0"}, {"T 0, T 0", "S 0"}, {"T' 0, T' 0", "S' 0"}, {"S 0, T' 0", "T 0"},
		{"Z 0, X 0, W, W", "Y 0"}, {"X 0, Z 0", "W, W, Y 0"}, {"X 0, T 0, X 0", "W, T' 0"}, {"W, W, W, W, W, W, W, W", ""},
		{"H 0, S 0, H 0, S 0, H 0, S 0", "W"}, {"H 1, CX 0 1, H 1", "CZ 0 1"}, {"CX 0 1, CX 1 0, CX 0 1", "SWAP 0 1"}, {"CZ 0 1", "CZ 1 0"},
		{"SWAP 0 1", "SWAP 1 0"}, {"H 0, H 1, CX 0 1, H 0, H 1", "CX 1 0"}, {"SWAP 0 1, CX 0 1, SWAP 0 1", "CX 1 0"}, {"SWAP 0 1, T 0", "T 1, SWAP 0 1"},
		{"X 0, CX 0 1", "CX 0 1, X 0, X 1"}, {"Z 1, CX 0 1", "CX 0 1, Z 0, Z 1"}, {"T 0, CX 0 1", "CX 0 1, T 0"}, {"X 1, CX 0 1", "CX 0 1, X 1"},
		{"T 0, T 1, CX 0 1, T' 1, CX 0 1", "T 0, T 1, CX 1 0, T' 0, CX 1 0"},
	} {
		texts := func(line string) []string { return strings.FieldsFunc(line, func(r rune) bool { return r == ',' }) }
		left, fine := impl.OperatorOf(circuitOf(2, texts(c.left)...))
		right, good := impl.OperatorOf(circuitOf(2, texts(c.right)...))
		if !fine || !good || !sameMatrix(left, right) {
			t.Errorf("%s: %v is not %v of %s", c.left, left, right, c.right)
		}
	}
}

// TestOperatorOfRenamedQubits finds each cell again at the renamed bits.
func TestOperatorOfRenamedQubits(t *testing.T) {
	get, kept := mustMatrix(t), mustCircuit(t)
	for n := 1; n <= 3; n++ {
		c := sampleCircuit(n, 20, n+5)
		small := get(impl.OperatorOf(c))
		for _, to := range renamings(n, 4) {
			big := get(impl.OperatorOf(kept(impl.MapQubits(c, to, 4))))
			for row := range big.Rows {
				for col := range big.Cols {
					want := whole(0)
					if bitsOf(4, row^col, completed(to, 4)[n:]) == 0 {
						want = small.Cells[bitsOf(4, row, to)*small.Cols+bitsOf(4, col, to)]
					}
					if big.Cells[row*big.Cols+col] != want {
						t.Fatal("cell", row, col, "of the operator with qubits", to)
					}
				}
			}
		}
	}
}

func TestControlledLaws(t *testing.T) {
	get := mustMatrix(t)
	for n := 1; n <= 4; n++ {
		a, b := get(impl.OperatorOf(sampleCircuit(n, 15, n))), get(impl.OperatorOf(circuit(n, validGates(n)...)))
		first, second := get(impl.ControlledOf(a)), get(impl.ControlledOf(b))
		both := get(impl.ControlledOf(get(impl.MulMatrix(a, b))))
		checkMatrixLaw(t, "a product with a control", both, get(impl.MulMatrix(first, second)))
		checkMatrixLaw(t, "an adjoint with a control", get(impl.ControlledOf(get(impl.Adjoint(a)))), get(impl.Adjoint(first)))
		checkMatrixLaw(t, "an identity with a control", get(impl.ControlledOf(identity(1<<n))), identity(2<<n))
		is, ok := impl.IsUnitary(first)
		checkAnswer(t, "IsUnitary of an operator with a control", is, ok, true, true)
	}
	for _, pair := range [][2]impl.Gate{{gate(impl.GtX, 0, 0), gate(impl.GtCX, 0, 1)}, {gate(impl.GtZ, 0, 0), gate(impl.GtCZ, 0, 1)}} {
		want := get(impl.GateMatrix(2, pair[1]))
		checkMatrixLaw(t, "a gate with a control", get(impl.ControlledOf(get(impl.GateMatrix(1, pair[0])))), want)
	}
}
