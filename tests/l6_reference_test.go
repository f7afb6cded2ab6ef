package tests

import (
	"slices"
	"testing"

	"loop.example/g00864/impl"
)

// basisVector has 1 for one basis state of n qubits and 0 for all others.
func basisVector(n int, start int) impl.Matrix {
	vector := filled(1<<n, 1, whole(0))
	vector.Cells[start] = whole(1)
	return vector
}

// referenceRun multiplies m by the matrix of each gate, with numerators of any size, and returns all products until one fails.
func referenceRun(c impl.Circuit, m impl.Matrix) []impl.Matrix {
	list := []impl.Matrix{m}
	for _, g := range c.Gates {
		product, ok := referenceMul(placedMatrix(c.Qubits, g), m)
		if !ok {
			break
		}
		list, m = append(list, product), product
	}
	return list
}

// compareRun simulates some circuits with the first gates of c, among them those near a limit, and returns whether the last one succeeds.
func compareRun(t *testing.T, name string, c impl.Circuit, first impl.Matrix, simulate func(impl.Circuit) (impl.Matrix, bool)) bool {
	t.Helper()
	list := referenceRun(c, first)
	for count := range len(c.Gates) + 1 {
		if count%41 != 0 && (count < len(list)-3 || count > len(list)+1) && count < len(c.Gates) {
			continue
		}
		got, ok := simulate(circuit(c.Qubits, c.Gates[:count]...))
		if count < len(list) {
			compareMatrix(t, name, got, ok, list[count], true)
		} else {
			compareMatrix(t, name, got, ok, impl.Matrix{}, false)
		}
	}
	return len(list) > len(c.Gates)
}

// TestSimulationReferenceOfWords has circuits on one qubit, most of which leave a limit.
func TestSimulationReferenceOfWords(t *testing.T) {
	fine, failed := 0, 0
	for _, seed := range []int{28, 73, 1, 2, 3, 4} {
		for _, count := range []int{200, maxGates} {
			c := wordOf(1, 0, seed, count)
			if compareRun(t, "OperatorOf", c, identity(2), impl.OperatorOf) {
				fine++
			} else {
				failed++
			}
			for start := range 2 {
				compareRun(t, "StateAfter", c, basisVector(1, start), func(c impl.Circuit) (impl.Matrix, bool) { return impl.StateAfter(c, start) })
			}
		}
	}
	if fine < 3 || failed < 3 {
		t.Error("the cases are not mixed:", fine, failed)
	}
}

// entangled has H, T and some S on every qubit in turn, and a gate on two qubits behind each round.
func entangled(n int, seed int, count int) impl.Circuit {
	d, c := dice(seed), circuit(n)
	for len(c.Gates) < count {
		for q := range n {
			c.Gates = append(c.Gates, gate(impl.GtH, q, 0), gate([]int{impl.GtT, impl.GtTdg}[d.below(2)], q, 0))
			if d.below(2) == 0 {
				c.Gates = append(c.Gates, gate(impl.GtS, q, 0))
			}
		}
		if n > 1 {
			a := d.below(n)
			c.Gates = append(c.Gates, gate([]int{impl.GtCX, impl.GtCZ, impl.GtSwap}[d.below(3)], a, (a+1+d.below(n-1))%n))
		}
	}
	c.Gates = c.Gates[:count]
	return c
}

// TestSimulationReferenceOfManyQubits compares single states, because these take less time than operators.
func TestSimulationReferenceOfManyQubits(t *testing.T) {
	fine, failed := 0, 0
	for n := 2; n <= 3; n++ {
		for seed := 1; seed <= 3; seed++ {
			for _, count := range []int{60, maxGates} {
				start := seed % (1 << n)
				if compareRun(t, "StateAfter", entangled(n, seed, count), basisVector(n, start), func(c impl.Circuit) (impl.Matrix, bool) { return impl.StateAfter(c, start) }) {
					fine++
				} else {
					failed++
				}
			}
		}
	}
	if fine < 3 || failed < 3 {
		t.Error("the cases are not mixed:", fine, failed)
	}
	compareRun(t, "OperatorOf", entangled(2, 4, 100), identity(4), impl.OperatorOf)
	compareRun(t, "OperatorOf", sampleCircuit(3, 30, 2), identity(8), impl.OperatorOf)
}

// TestOperatorFailsWithAState has circuits that leave a limit: there is an operator exactly if there are states from all starts.
func TestOperatorFailsWithAState(t *testing.T) {
	fine, failed := 0, 0
	for n := 1; n <= maxQubits; n++ {
		for seed := range max(1, 4-n) {
			c := entangled(n, seed, maxGates)
			for count := seed; count < maxGates; count += 20*n + 20 {
				c := circuit(n, c.Gates[:count]...)
				_, exists := impl.OperatorOf(c)
				all := true
				for start := range 1 << n {
					_, ok := impl.StateAfter(c, start)
					all = all && ok
				}
				if exists != all {
					t.Error("an operator and its states:", n, seed, count, exists, all)
				}
				if exists {
					fine++
				} else {
					failed++
				}
			}
		}
	}
	if fine < 5 || failed < 5 {
		t.Error("the cases are not mixed:", fine, failed)
	}
}

func referenceWeight(x impl.Dyadic) (impl.Dyadic, bool) {
	return referenceProduct(fractionOf(x), fractionOf(x).conjugate())
}

// referenceQubitWeight adds the weights of the ends in which the bit of the qubit is 1.
func referenceQubitWeight(n int, state impl.Matrix, q int) (impl.Dyadic, bool) {
	var sum impl.Dyadic
	for end, x := range state.Cells {
		if bitOf(n, end, q) == 0 {
			continue
		}
		weight, ok := referenceWeight(x)
		if !ok {
			return impl.Dyadic{}, false
		}
		if sum, ok = referenceSum(fractionOf(sum), fractionOf(weight), 1); !ok {
			return impl.Dyadic{}, false
		}
	}
	return sum, true
}

// TestWeightReference has states with exponents around 30, where the squares of amplitudes and their sums leave the limits.
func TestWeightReference(t *testing.T) {
	answers := map[[2]bool]int{}
	for n := 1; n <= 4; n++ {
		for seed := 1; seed <= 40; seed += n * n {
			c := entangled(n, seed, maxGates)
			if n == 1 {
				c = wordOf(1, 0, 100+seed, maxGates)
			}
			for _, start := range []int{0, 1<<n - 1} {
				c := circuit(n, c.Gates[:countAtExp(t, c, start, 29+seed%2)]...)
				state, ok := impl.StateAfter(c, start)
				if !ok {
					t.Error("no state:", n, seed, start)
				}
				for end, x := range state.Cells {
					want, succeeds := referenceWeight(x)
					got, ok := impl.OutcomeWeight(c, start, end)
					compareDyadic(t, "OutcomeWeight", got, ok, want, succeeds, n, seed, start, end)
					answers[[2]bool{false, succeeds}]++
				}
				for q := range n {
					want, succeeds := referenceQubitWeight(n, state, q)
					got, ok := impl.QubitWeight(c, start, q)
					compareDyadic(t, "QubitWeight", got, ok, want, succeeds, n, seed, start, q)
					answers[[2]bool{true, succeeds}]++
				}
			}
		}
	}
	for _, kind := range [][2]bool{{false, false}, {false, true}, {true, false}, {true, true}} {
		if answers[kind] < 5 {
			t.Error("the cases are not mixed:", answers)
		}
	}
}

// countAtExp returns the number of gates at which the state has the exponent for the last time.
func countAtExp(t *testing.T, c impl.Circuit, start int, exp int) int {
	t.Helper()
	state, last := basisVector(c.Qubits, start), 0
	for count, g := range c.Gates {
		next, ok := impl.MulMatrix(placedMatrix(c.Qubits, g), state)
		if !ok {
			break
		}
		state = next
		if slices.ContainsFunc(state.Cells, func(x impl.Dyadic) bool { return x.Exp == exp }) {
			last = count + 1
		}
	}
	return last
}
