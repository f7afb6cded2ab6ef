package tests

import (
	"slices"
	"testing"

	"loop.example/g00864/impl"
)

// checkFreshMatrix calls f twice, spoils both results and calls f once more.
func checkFreshMatrix(t *testing.T, what string, f func() (impl.Matrix, bool)) {
	t.Helper()
	first, ok := f()
	second, fine := f()
	if ok != fine || !sameMatrix(first, second) {
		t.Error(what, "has two results")
	}
	kept := slices.Clone(second.Cells)
	spoil(first)
	if !slices.Equal(second.Cells, kept) {
		t.Error(what, "shares memory of two results")
	}
	shape := matrix(second.Rows, second.Cols, kept...)
	spoil(second)
	if third, ok := f(); ok != fine || !sameMatrix(third, shape) {
		t.Error(what, "has another result after its results were spoilt:", third, ok)
	}
}

// simulationMemoryCases are valid and not valid circuits, among them those with the identity or a basis vector as a result, and one that leaves a limit.
func simulationMemoryCases() []impl.Circuit {
	list := circuitMemoryCases()
	for n := 1; n <= 3; n++ {
		list = append(list, circuit(n, gate(impl.GtW, 0, 0)), circuit(n, gate(impl.GtT, n-1, 0)), circuit(n, validGates(n)...), entangled(n, n, 25))
	}
	return append(list, wordOf(1, 0, 28, 282), wordOf(1, 0, 28, 283), circuit(5), sampleCircuit(5, 12, 5))
}

func TestGateMatrixMemory(t *testing.T) {
	for n := 0; n <= maxQubits+1; n++ {
		for _, g := range append(validGates(3), gate(impl.GtSwap, 4, 0), impl.Gate{}) {
			checkFreshMatrix(t, "GateMatrix", func() (impl.Matrix, bool) { return impl.GateMatrix(n, g) })
		}
	}
}

func TestOperatorAndStateMemory(t *testing.T) {
	for _, c := range simulationMemoryCases() {
		g := guardCircuit(c)
		checkFreshMatrix(t, "OperatorOf", func() (impl.Matrix, bool) { return impl.OperatorOf(g.c) })
		for start := -1; start <= 8; start++ {
			checkFreshMatrix(t, "StateAfter", func() (impl.Matrix, bool) { return impl.StateAfter(g.c, start) })
		}
		g.check(t, "a simulation")
		plain, ok := impl.OperatorOf(c)
		guarded, fine := impl.OperatorOf(g.c)
		if ok != fine || !sameMatrix(plain, guarded) {
			t.Error("OperatorOf reads gates behind the length:", c)
		}
	}
}

// TestSimulationQuestionsMemory calls the functions that have circuits as arguments and return no matrix.
func TestSimulationQuestionsMemory(t *testing.T) {
	for _, c := range simulationMemoryCases() {
		g, h := guardCircuit(c), guardCircuit(c)
		_, exists := impl.OperatorOf(c)
		same, ok := impl.SameOperator(g.c, h.c)
		checkAnswer(t, "SameOperator of a copy", same, ok, exists, exists)
		same, ok = impl.SameOperator(g.c, g.c)
		checkAnswer(t, "SameOperator of one circuit twice", same, ok, exists, exists)
		k, is, ok := impl.IsPhase(g.c)
		other, found, fine := impl.IsPhase(c)
		if k != other || is != found || ok != fine || ok != exists {
			t.Error("IsPhase has two results:", c)
		}
		for start := -1; start <= 4; start++ {
			for number := -1; number <= 4; number++ {
				weight, ok := impl.OutcomeWeight(g.c, start, number)
				again, fine := impl.OutcomeWeight(c, start, number)
				one, good := impl.QubitWeight(g.c, start, number)
				more, sound := impl.QubitWeight(c, start, number)
				if weight != again || ok != fine || one != more || good != sound {
					t.Error("a weight has two values:", c, start, number)
				}
			}
		}
		g.check(t, "a question")
		h.check(t, "a question")
	}
}

// TestSameOperatorOfPartsOfOneCircuit has a second circuit in the spare capacity behind the first.
func TestSameOperatorOfPartsOfOneCircuit(t *testing.T) {
	for n := 1; n <= 3; n++ {
		c := sampleCircuit(n, 14, n)
		g := guardCircuit(circuit(n, append(slices.Clone(c.Gates), c.Gates...)...))
		first, second := circuit(n, g.c.Gates[:14]...), circuit(n, g.c.Gates[14:]...)
		same, ok := impl.SameOperator(first, second)
		checkAnswer(t, "SameOperator of two halves", same, ok, true, true)
		operator, ok := impl.OperatorOf(first)
		want, fine := impl.OperatorOf(c)
		if ok != fine || !sameMatrix(operator, want) {
			t.Error("OperatorOf reads gates behind the length:", c)
		}
		g.check(t, "a circuit with two halves")
	}
}

func TestControlledMemory(t *testing.T) {
	for _, m := range append(memoryCases(), unitaries(t)...) {
		g := guard(m)
		checkFreshMatrix(t, "ControlledOf", func() (impl.Matrix, bool) { return impl.ControlledOf(g.m) })
		g.check(t, "ControlledOf")
		plain, ok := impl.ControlledOf(m)
		got, fine := impl.ControlledOf(g.m)
		if ok != fine || !sameMatrix(plain, got) {
			t.Error("ControlledOf reads cells behind the length:", m)
		}
		spoil(got)
		g.check(t, "ControlledOf with a spoilt result")
	}
}

func TestEqualUpToPhaseMemory(t *testing.T) {
	list := append(memoryCases(), unitaries(t)...)
	for _, a := range list {
		for _, b := range list {
			g, h := guard(a), guard(b)
			k, is, ok := impl.EqualUpToPhase(g.m, h.m)
			other, found, fine := impl.EqualUpToPhase(a, b)
			if k != other || is != found || ok != fine {
				t.Error("EqualUpToPhase has two results:", a, b)
			}
			g.check(t, "EqualUpToPhase")
			h.check(t, "EqualUpToPhase")
		}
		g := guard(a)
		k, is, ok := impl.EqualUpToPhase(g.m, g.m)
		if valid := impl.IsValidMatrix(a); k != 0 || is != valid || ok != valid {
			t.Error("EqualUpToPhase of one matrix twice:", a, k, is, ok)
		}
		g.check(t, "EqualUpToPhase of one matrix twice")
	}
}
