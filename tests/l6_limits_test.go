package tests

import (
	"math"
	"slices"
	"testing"

	"loop.example/g00864/impl"
)

// outsideOf lists integers that are not in 0 to n - 1, first the nearest ones.
func outsideOf(n int) []int {
	return append([]int{-1, n, -2, n + 1, -n, 2 * n, 3*n - 1, -n - 1}, farInts()...)
}

func TestGateMatrixInvalid(t *testing.T) {
	for n := 1; n <= maxQubits; n++ {
		for _, g := range invalidGates(n) {
			got, ok := impl.GateMatrix(n, g)
			checkNoMatrix(t, "GateMatrix of a gate that is not valid", got, ok)
		}
		for _, g := range validGates(maxQubits) {
			got, ok := impl.GateMatrix(n, g)
			if g.A < n && g.B < n {
				checkMatrix(t, "GateMatrix", got, ok, placedMatrix(n, g))
			} else {
				checkNoMatrix(t, "GateMatrix with too few qubits", got, ok)
			}
		}
	}
	for _, n := range invalidQubitCounts() {
		for _, g := range append(validGates(maxQubits), impl.Gate{}, gate(impl.GtX, n-1, 0)) {
			got, ok := impl.GateMatrix(n, g)
			checkNoMatrix(t, "GateMatrix with a wrong number of qubits", got, ok)
		}
	}
}

// checkNotSimulated calls every function that has a circuit as an argument, which must fail.
func checkNotSimulated(t *testing.T, c impl.Circuit) {
	t.Helper()
	operator, ok := impl.OperatorOf(c)
	checkNoMatrix(t, "OperatorOf", operator, ok)
	k, is, ok := impl.IsPhase(c)
	checkNoPhase(t, "IsPhase", k, is, ok, false)
	for _, other := range []impl.Circuit{c, circuit(1), circuit(c.Qubits)} {
		same, ok := impl.SameOperator(c, other)
		checkAnswer(t, "SameOperator in front", same, ok, false, false)
		same, ok = impl.SameOperator(other, c)
		checkAnswer(t, "SameOperator behind", same, ok, false, false)
	}
	for _, start := range []int{0, 1, -1, math.MaxInt} {
		state, ok := impl.StateAfter(c, start)
		checkNoMatrix(t, "StateAfter", state, ok)
		for _, number := range []int{0, 1, -1, math.MinInt} {
			weight, ok := impl.OutcomeWeight(c, start, number)
			checkDyadicFails(t, "OutcomeWeight", weight, ok)
			weight, ok = impl.QubitWeight(c, start, number)
			checkDyadicFails(t, "QubitWeight", weight, ok)
		}
	}
}

func TestSimulationOfInvalidCircuits(t *testing.T) {
	checkNotSimulated(t, impl.Circuit{})
	for _, n := range invalidQubitCounts() {
		checkNotSimulated(t, circuit(n))
		checkNotSimulated(t, circuit(n, gate(impl.GtX, 0, 0)))
		checkNotSimulated(t, circuit(n, gate(impl.GtW, 0, 0)))
	}
	for n := 1; n <= maxQubits; n++ {
		for k, g := range invalidGates(n) {
			checkNotSimulated(t, circuit(n, g))
			c := sampleCircuit(n, 5, k)
			c.Gates[[]int{0, 2, 4}[k%3]] = g
			checkNotSimulated(t, c)
		}
		for _, g := range validGates(n) {
			checkNotSimulated(t, repeatedGate(n, g, maxGates+1))
		}
	}
	for place := 0; place < maxGates; place += 7 {
		c := repeatedGate(2, gate(impl.GtX, 0, 0), maxGates)
		c.Gates[place] = gate(impl.GtX, 2, 0)
		checkNotSimulated(t, c)
	}
}

// TestSimulationOutside has starts, ends and qubits beside their ranges, with circuits that are valid.
func TestSimulationOutside(t *testing.T) {
	for n := 1; n <= maxQubits; n++ {
		for _, c := range []impl.Circuit{circuit(n), circuit(n, gate(impl.GtH, n-1, 0)), sampleCircuit(n, 9, n)} {
			last := 1<<n - 1
			for _, wrong := range outsideOf(1 << n) {
				state, ok := impl.StateAfter(c, wrong)
				checkNoMatrix(t, "StateAfter", state, ok)
				for _, right := range []int{0, last, wrong} {
					weight, ok := impl.OutcomeWeight(c, wrong, right)
					checkDyadicFails(t, "OutcomeWeight with a wrong start", weight, ok)
					weight, ok = impl.OutcomeWeight(c, right, wrong)
					checkDyadicFails(t, "OutcomeWeight with a wrong end", weight, ok)
				}
				weight, ok := impl.QubitWeight(c, wrong, 0)
				checkDyadicFails(t, "QubitWeight with a wrong start", weight, ok)
			}
			for _, q := range notQubits(n) {
				for _, start := range []int{0, last} {
					weight, ok := impl.QubitWeight(c, start, q)
					checkDyadicFails(t, "QubitWeight with a wrong qubit", weight, ok)
				}
			}
			checkInside(t, c, last)
		}
	}
}

// checkInside has the last start, end and qubit that are in their ranges.
func checkInside(t *testing.T, c impl.Circuit, last int) {
	t.Helper()
	_, fine := impl.StateAfter(c, last)
	_, good := impl.OutcomeWeight(c, last, last)
	_, sound := impl.QubitWeight(c, last, c.Qubits-1)
	if !fine || !good || !sound {
		t.Error("a call with the last basis state fails:", c, fine, good, sound)
	}
}

func TestControlledDimensions(t *testing.T) {
	for _, rows := range validDims() {
		for _, cols := range validDims() {
			for _, m := range []impl.Matrix{filled(rows, cols, whole(0)), filled(rows, cols, dyadic(ring(maxCoef, 1, 0, 0), 60)), sampleMatrix(rows, cols, 50, 5)} {
				got, ok := impl.ControlledOf(m)
				if rows != cols || rows > 16 {
					checkNoMatrix(t, "ControlledOf", got, ok)
					continue
				}
				want := identity(2 * rows)
				for row := range rows {
					for col := range cols {
						want.Cells[(rows+row)*2*rows+rows+col] = m.Cells[row*cols+col]
					}
				}
				checkMatrix(t, "ControlledOf", got, ok, want)
			}
		}
	}
	for _, m := range append(invalidMatrices(), identity(32)) {
		got, ok := impl.ControlledOf(m)
		checkNoMatrix(t, "ControlledOf", got, ok)
	}
	for _, x := range validDyadics() {
		got, ok := impl.ControlledOf(matrix(1, 1, x))
		checkMatrix(t, "ControlledOf a number", got, ok, matrix(2, 2, whole(1), whole(0), whole(0), x))
	}
}

// TestSimulationOfMaxGates repeats each gate: eight times any gate is the identity.
func TestSimulationOfMaxGates(t *testing.T) {
	get := mustMatrix(t)
	for n := 1; n <= maxQubits; n++ {
		for k, g := range validGates(n) {
			if n > 3 && k%10 != 0 {
				continue
			}
			checkMatrixLaw(t, "MaxGates times a gate", get(impl.OperatorOf(repeatedGate(n, g, maxGates))), identity(1<<n))
			inverse := get(impl.Adjoint(placedMatrix(n, g)))
			c := repeatedGate(n, g, maxGates-1)
			checkMatrixLaw(t, "one time less", get(impl.OperatorOf(c)), inverse)
			checkMatrixLaw(t, "one time less from the last state", get(impl.StateAfter(c, 1<<n-1)), get(impl.ColumnOf(inverse, 1<<n-1)))
		}
		power, is, ok := impl.IsPhase(repeatedGate(n, gate(impl.GtW, 0, 0), maxGates-1))
		checkPhase(t, "IsPhase of many GtW", power, is, ok, 7)
		same, ok := impl.SameOperator(repeatedGate(n, gate(impl.GtT, n-1, 0), maxGates), repeatedGate(n, gate(impl.GtW, 0, 0), maxGates))
		checkAnswer(t, "SameOperator of MaxGates gates", same, ok, true, true)
	}
}

// checkGreatestExp checks that the operator exists and has the greatest exponent of a cell.
func checkGreatestExp(t *testing.T, c impl.Circuit, want int) {
	t.Helper()
	operator, ok := impl.OperatorOf(c)
	least, fine := impl.LeastExp(operator)
	if !ok {
		t.Error("there is no operator")
	}
	checkNumber(t, "LeastExp", least, fine, want)
}

// TestOperatorExponentLimit has an operator with the exponent MaxExp, to which only H cannot be applied, even where the exponent would become less.
func TestOperatorExponentLimit(t *testing.T) {
	c := repeatedWord(1, 118, "H 0", "T 0", "S 0")
	checkGreatestExp(t, circuit(1, c.Gates[:351]...), 59)
	checkGreatestExp(t, c, 60)
	for _, g := range validGates(1) {
		longer := circuit(1, append(slices.Clone(c.Gates), g)...)
		if g.Kind == impl.GtH {
			checkNotOperated(t, longer)
		} else {
			checkGreatestExp(t, longer, 60)
		}
	}
	back := circuit(1, append(slices.Clone(c.Gates), circuitOf(1, "S' 0", "T' 0").Gates...)...)
	checkGreatestExp(t, back, 60)
	back.Gates = append(back.Gates, gate(impl.GtH, 0, 0))
	checkNotOperated(t, back)
}

// checkNotOperated is for valid circuits whose states leave the limits from each start.
func checkNotOperated(t *testing.T, c impl.Circuit) {
	t.Helper()
	if !impl.IsValidCircuit(c) {
		t.Error("not valid:", c)
	}
	checkNotSimulated(t, c)
	for start := range 1 << c.Qubits {
		state, ok := impl.StateAfter(c, start)
		checkNoMatrix(t, "StateAfter", state, ok)
	}
}

// wordOf returns a circuit on qubit q of n in which H and T alternate, with S behind some T.
func wordOf(n int, q int, seed int, count int) impl.Circuit {
	d, c := dice(seed), circuit(n)
	for len(c.Gates) < count {
		c.Gates = append(c.Gates, gate(impl.GtH, q, 0), gate(impl.GtT, q, 0))
		if d.below(2) == 0 {
			c.Gates = append(c.Gates, gate(impl.GtS, q, 0))
		}
	}
	c.Gates = c.Gates[:count]
	return c
}

// TestOperatorNumeratorLimit has an operator with the exponent 59, so that H leads to the exponent 60 and can only fail because of a numerator.
func TestOperatorNumeratorLimit(t *testing.T) {
	for seed, count := range map[int]int{28: 282, 73: 300, 284: 298, 329: 280} {
		checkGreatestExp(t, wordOf(1, 0, seed, count), 59)
		longer := wordOf(1, 0, seed, count+1)
		if last := longer.Gates[count]; last.Kind != impl.GtH {
			t.Error("the last gate is", last)
		}
		checkNotOperated(t, longer)
	}
}

// TestStateLimitFromSomeStarts has a circuit whose states leave the limits only if qubit 0 is 0: otherwise, S on qubit 1 comes before the last H.
func TestStateLimitFromSomeStarts(t *testing.T) {
	c := wordOf(2, 1, 28, 282)
	c.Gates = append(c.Gates, circuitOf(2, "T 0", "T 1", "CX 0 1", "T' 1", "CX 0 1", "H 1").Gates...)
	operator, ok := impl.OperatorOf(c)
	checkNoMatrix(t, "OperatorOf", operator, ok)
	k, is, ok := impl.IsPhase(c)
	checkNoPhase(t, "IsPhase", k, is, ok, false)
	same, ok := impl.SameOperator(c, c)
	checkAnswer(t, "SameOperator", same, ok, false, false)
	for start := range 4 {
		state, ok := impl.StateAfter(c, start)
		if start < 2 {
			checkNoMatrix(t, "StateAfter", state, ok)
			continue
		}
		least, fine := impl.LeastExp(state)
		if !ok || !fine || least < 59 {
			t.Error("no state from", start, ok, least)
		}
		// The state exists, but none of its weights does unless it is 0.
		weight, ok := impl.OutcomeWeight(c, start, 0)
		checkDyadic(t, "OutcomeWeight of 0", weight, ok, whole(0))
		weight, ok = impl.OutcomeWeight(c, start, 2)
		checkDyadicFails(t, "OutcomeWeight", weight, ok)
		weight, ok = impl.QubitWeight(c, start, 0)
		checkDyadicFails(t, "QubitWeight", weight, ok)
	}
}

// TestWeightExponentLimit has amplitudes whose exponents are doubled.
func TestWeightExponentLimit(t *testing.T) {
	for count, want := range map[int]bool{118: true, 119: false} {
		c := repeatedWord(1, 60, "H 0", "T 0")
		c.Gates = c.Gates[:count]
		for start := range 2 {
			for end := range 2 {
				weight, ok := impl.OutcomeWeight(c, start, end)
				if ok != want || ok == (weight == impl.Dyadic{}) {
					t.Error("weight after", count, "gates:", weight, ok)
				}
			}
			weight, ok := impl.QubitWeight(c, start, 0)
			other, fine := impl.OutcomeWeight(c, start, 1)
			if ok != want || fine != want || weight != other {
				t.Error("weight of the qubit after", count, "gates:", weight, ok, other, fine)
			}
		}
		checkGreatestExp(t, c, map[bool]int{true: 30, false: 31}[want])
	}
}

// TestWeightNumeratorLimit has one amplitude with the exponent 30 whose square is beyond the limit, and another one whose square is not.
func TestWeightNumeratorLimit(t *testing.T) {
	c := wordOf(1, 0, 122, 146)
	checkGreatestExp(t, c, 30)
	for start := range 2 {
		weight, ok := impl.OutcomeWeight(c, start, start)
		checkDyadicFails(t, "OutcomeWeight of the great amplitude", weight, ok)
		weight, ok = impl.OutcomeWeight(c, start, 1-start)
		if !ok || weight.Exp < 59 {
			t.Error("the other weight is", weight, ok)
		}
		one, ok := impl.QubitWeight(c, start, 0)
		if start == 1 {
			checkDyadicFails(t, "QubitWeight of the great amplitude", one, ok)
		} else {
			checkDyadic(t, "QubitWeight of the other amplitude", one, ok, weight)
		}
	}
}

// TestQubitWeightSumLimit has two weights with the sum 1, which is 2^30 / sqrt(2)^60 before it is brought into lowest form.
func TestQubitWeightSumLimit(t *testing.T) {
	c := wordOf(2, 1, 1, 154)
	c.Gates = append(c.Gates, gate(impl.GtX, 0, 0))
	for _, end := range []int{2, 3} {
		weight, ok := impl.OutcomeWeight(c, 0, end)
		if !ok || weight.Exp != 60 {
			t.Error("weight of", end, "is", weight, ok)
		}
	}
	weight, ok := impl.QubitWeight(c, 0, 0)
	checkDyadicFails(t, "QubitWeight of a sum beyond the limit", weight, ok)
	weight, ok = impl.QubitWeight(c, 2, 0)
	checkDyadic(t, "QubitWeight of a sum of zeros", weight, ok, whole(0))
	weight, ok = impl.QubitWeight(c, 0, 1)
	other, fine := impl.OutcomeWeight(c, 0, 3)
	if !ok || !fine || weight != other {
		t.Error("QubitWeight of qubit 1:", weight, ok, other, fine)
	}
}

// TestSimulationOfAnyInts calls every function with all small gates made of the least and greatest integers.
func TestSimulationOfAnyInts(t *testing.T) {
	wild := []int{math.MinInt, math.MinInt + 1, -1, 0, 1, 2, 5, 9, 12, 13, 31, 32, math.MaxInt - 1, math.MaxInt}
	for _, kind := range wild {
		for _, a := range wild {
			for _, b := range wild {
				g := gate(kind, a, b)
				for _, n := range wild {
					_, ok := impl.GateMatrix(n, g)
					if ok != impl.IsValidGate(n, g) {
						t.Error("GateMatrix and IsValidGate disagree:", n, g, ok)
					}
				}
				c := circuit(2, g)
				valid := impl.IsValidCircuit(c)
				state, fine := impl.StateAfter(c, kind)
				_, good := impl.OutcomeWeight(c, a, b)
				_, sound := impl.QubitWeight(c, a, b)
				same, sure := impl.SameOperator(c, c)
				if fine != (valid && kind >= 0 && kind < 4) || fine != (len(state.Cells) == 4) || good != (valid && max(a, b) < 4) || sound != (valid && a < 4 && b < 2) || same != valid || sure != valid {
					t.Error("the functions disagree on validity:", c, valid, fine, good, sound, same, sure)
				}
				m := matrix(kind, a, repeated(whole(1), 4)...)
				_, controlled := impl.ControlledOf(m)
				_, equal, compared := impl.EqualUpToPhase(m, m)
				if shape := impl.IsValidMatrix(m); controlled != (shape && kind == a) || equal != shape || compared != shape {
					t.Error("the functions disagree on validity:", kind, a, controlled, equal, compared)
				}
			}
		}
	}
}
