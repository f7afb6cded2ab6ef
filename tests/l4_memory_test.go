package tests

import (
	"math"
	"slices"
	"testing"

	"loop.example/g00864/impl"
)

// guardedCircuit is a circuit with spare capacity behind its gates, and a copy of all of that memory.
type guardedCircuit struct {
	c      impl.Circuit
	before []impl.Gate
}

// guardCircuit fills the spare capacity with gates that are not valid.
func guardCircuit(c impl.Circuit) guardedCircuit {
	spare := slices.Repeat([]impl.Gate{gate(77, -7, 7)}, len(c.Gates)+16)
	gates := append(slices.Clone(c.Gates), spare...)
	c.Gates = gates[:len(c.Gates)]
	return guardedCircuit{c, slices.Clone(gates)}
}

func (g guardedCircuit) check(t *testing.T, what string) {
	t.Helper()
	if all := g.c.Gates[:len(g.before)]; !slices.Equal(all, g.before) {
		t.Errorf("%s: an argument was changed: %v, before %v", what, all, g.before)
	}
}

// spoilCircuit overwrites a result and all memory that can be reached through it.
func spoilCircuit(c impl.Circuit) {
	all := c.Gates[:cap(c.Gates)]
	for k := range all {
		all[k] = gate(-5, 5, -5)
	}
}

// circuitMemoryCases are valid and not valid circuits, among them those that are their own inverses.
func circuitMemoryCases() []impl.Circuit {
	list := []impl.Circuit{{}, circuit(1), circuit(2), circuit(6), circuit(1, gate(0, 0, 0)), circuit(2, gate(impl.GtCX, 0, 1), gate(impl.GtCX, 1, 1))}
	for n := 1; n <= 3; n++ {
		list = append(list, circuit(n, gate(impl.GtH, 0, 0)), repeatedGate(n, gate(impl.GtX, 0, 0), 9), sampleCircuit(n, 8, n), sampleCircuit(n, 30, n))
		list = append(list, repeatedGate(n, gate(impl.GtZ, 0, 0), maxGates), repeatedGate(n, gate(impl.GtZ, 0, 0), maxGates+1), repeatedGate(n, gate(impl.GtW, 0, 0), 60))
	}
	return list
}

// checkFresh calls f twice and spoils both results.
func checkFresh(t *testing.T, what string, f func() (impl.Circuit, bool), guards ...guardedCircuit) {
	t.Helper()
	first, ok := f()
	second, fine := f()
	if ok != fine || !sameCircuit(first, second) {
		t.Error(what, "has two results")
	}
	kept := slices.Clone(second.Gates)
	spoilCircuit(first)
	if !slices.Equal(second.Gates, kept) {
		t.Error(what, "shares memory of two results")
	}
	spoilCircuit(second)
	for _, g := range guards {
		g.check(t, what)
	}
}

func TestInverseMemory(t *testing.T) {
	for _, c := range circuitMemoryCases() {
		g := guardCircuit(c)
		checkFresh(t, "Inverse", func() (impl.Circuit, bool) { return impl.Inverse(g.c) }, g)
	}
}

func TestConcatMemory(t *testing.T) {
	for _, a := range circuitMemoryCases() {
		for _, b := range circuitMemoryCases() {
			g, h := guardCircuit(a), guardCircuit(b)
			checkFresh(t, "Concat", func() (impl.Circuit, bool) { return impl.Concat(g.c, h.c) }, g, h)
		}
		g := guardCircuit(a)
		checkFresh(t, "Concat with itself", func() (impl.Circuit, bool) { return impl.Concat(g.c, g.c) }, g)
		// The second circuit begins in the spare capacity of the first.
		half := impl.Circuit{Qubits: a.Qubits, Gates: g.c.Gates[:len(a.Gates)/2]}
		rest := impl.Circuit{Qubits: a.Qubits, Gates: g.c.Gates[len(a.Gates)/2:]}
		checkFresh(t, "Concat of two parts", func() (impl.Circuit, bool) { return impl.Concat(half, rest) }, g)
		got, ok := impl.Concat(half, rest)
		if impl.IsValidCircuit(a) {
			checkCircuit(t, "Concat of two parts", got, ok, a)
		}
	}
}

func TestMapQubitsMemory(t *testing.T) {
	for _, c := range circuitMemoryCases() {
		for _, to := range [][]int{{}, {0}, {2}, {0, 1}, {1, 0}, {3, 4}, {0, 1, 2}, {2, 0, 1}, {1, 1}, {0, 5}, {-1}, {0, math.MaxInt, 1}} {
			for _, n := range []int{c.Qubits, maxQubits, maxQubits + 1} {
				g, all := guardCircuit(c), append(slices.Clone(to), 3, 4, -9, 9)
				kept := slices.Clone(all)
				checkFresh(t, "MapQubits", func() (impl.Circuit, bool) { return impl.MapQubits(g.c, all[:len(to)], n) }, g)
				if !slices.Equal(all, kept) {
					t.Error("MapQubits changed its list:", all, kept)
				}
			}
		}
	}
}

// TestCircuitQuestionsMemory calls the functions that return no circuit.
func TestCircuitQuestionsMemory(t *testing.T) {
	for _, c := range circuitMemoryCases() {
		g, h := guardCircuit(c), guardCircuit(c)
		valid := impl.IsValidCircuit(g.c)
		if !impl.EqualCircuits(g.c, h.c) {
			t.Error("not equal to a copy:", c)
		}
		_, counted := impl.CountT(g.c)
		_, known := impl.CountTwo(g.c)
		_, decided := impl.IsClifford(g.c)
		if counted != valid || known != valid || decided != valid {
			t.Error("the functions disagree on validity:", c, valid, counted, known, decided)
		}
		g.check(t, "a question")
		h.check(t, "a question")
	}
}

// TestCircuitsOfAnyInts calls every function with all small gates made of the least and greatest integers.
func TestCircuitsOfAnyInts(t *testing.T) {
	wild := []int{math.MinInt, math.MinInt + 1, -1, 0, 1, 4, 5, 9, 12, 13, math.MaxInt - 1, math.MaxInt}
	for _, kind := range wild {
		for _, a := range wild {
			for _, b := range wild {
				g := gate(kind, a, b)
				_, times, inverted := impl.InverseGate(g)
				text, formatted := impl.FormatGate(g)
				if valid := impl.IsValidGate(maxQubits, g); inverted != valid || formatted != valid || (times != 0) != valid || (text != "") != valid {
					t.Error("the functions disagree on validity:", g)
				}
				for _, n := range wild {
					checkAgreement(t, circuit(n, g), []int{a, b}, kind)
				}
			}
		}
	}
}

func checkAgreement(t *testing.T, c impl.Circuit, to []int, n int) {
	t.Helper()
	valid := impl.IsValidCircuit(c)
	if valid != impl.IsValidGate(c.Qubits, c.Gates[0]) {
		t.Error("the circuit and its gate disagree on validity:", c)
	}
	_, inverted := impl.Inverse(c)
	_, joined := impl.Concat(c, c)
	_, counted := impl.CountT(c)
	_, known := impl.CountTwo(c)
	_, decided := impl.IsClifford(c)
	if inverted != valid || joined != valid || counted != valid || known != valid || decided != valid || !impl.EqualCircuits(c, c) {
		t.Error("the functions disagree on validity:", c)
	}
	mapped, ok := impl.MapQubits(c, to, n)
	if ok != impl.IsValidCircuit(mapped) || ok && !valid {
		t.Error("renamed:", c, to, n, mapped, ok)
	}
}
