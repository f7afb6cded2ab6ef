package tests

import (
	"slices"
	"testing"

	"loop.example/g00864/impl"
)

const maxQubits = 5
const maxGates = 400

// gateKind is what the document says of one kind of gate.
type gateKind struct {
	kind    int
	name    string
	qubits  int
	inverse int
	times   int
}

func gateKinds() []gateKind {
	return []gateKind{
		{impl.GtH, "H", 1, impl.GtH, 1},
		{impl.GtX, "X", 1, impl.GtX, 1},
		{impl.GtY, "Y", 1, impl.GtY, 1},
		{impl.GtZ, "Z", 1, impl.GtZ, 1},
		{impl.GtS, "S", 1, impl.GtSdg, 1},
		{impl.GtSdg, "S'", 1, impl.GtS, 1},
		{impl.GtT, "T", 1, impl.GtTdg, 1},
		{impl.GtTdg, "T'", 1, impl.GtT, 1},
		{impl.GtCX, "CX", 2, impl.GtCX, 1},
		{impl.GtCZ, "CZ", 2, impl.GtCZ, 1},
		{impl.GtSwap, "SWAP", 2, impl.GtSwap, 1},
		{impl.GtW, "W", 0, impl.GtW, 7},
	}
}

func gate(kind, a, b int) impl.Gate { return impl.Gate{Kind: kind, A: a, B: b} }

func circuit(n int, gates ...impl.Gate) impl.Circuit { return impl.Circuit{Qubits: n, Gates: gates} }

// validGates lists all gates that are valid for n qubits.
func validGates(n int) []impl.Gate {
	var list []impl.Gate
	for _, k := range gateKinds() {
		if k.qubits == 0 {
			list = append(list, gate(k.kind, 0, 0))
			continue
		}
		for a := range n {
			if k.qubits == 1 {
				list = append(list, gate(k.kind, a, 0))
				continue
			}
			for b := range n {
				if a != b {
					list = append(list, gate(k.kind, a, b))
				}
			}
		}
	}
	return list
}

// sampleCircuit returns a circuit of valid gates in no particular order, the same one in every run.
func sampleCircuit(n int, count int, seed int) impl.Circuit {
	list := validGates(n)
	c := impl.Circuit{Qubits: n}
	for range count {
		seed = (seed*1103515245 + 12345) % (1 << 31)
		c.Gates = append(c.Gates, list[seed>>8%len(list)])
	}
	return c
}

// sampleCircuits returns circuits of all numbers of qubits, with no gates, with every gate, and with gates in no particular order.
func sampleCircuits() []impl.Circuit {
	var list []impl.Circuit
	for n := 1; n <= maxQubits; n++ {
		list = append(list, circuit(n), circuit(n, validGates(n)...))
		for count := 1; count <= 40; count += 3 {
			list = append(list, sampleCircuit(n, count, n*count))
		}
		list = append(list, sampleCircuit(n, maxGates, n))
	}
	return list
}

// gatesOf returns the number of gates of a circuit that are of one of the kinds.
func gatesOf(c impl.Circuit, kinds ...int) int {
	count := 0
	for _, g := range c.Gates {
		if slices.Contains(kinds, g.Kind) {
			count++
		}
	}
	return count
}

func sameCircuit(a impl.Circuit, b impl.Circuit) bool {
	return a.Qubits == b.Qubits && slices.Equal(a.Gates, b.Gates)
}

func checkCircuit(t *testing.T, what string, got impl.Circuit, ok bool, want impl.Circuit) {
	t.Helper()
	if !ok || !sameCircuit(got, want) {
		t.Errorf("%s: got %v, %v, want %v", what, got, ok, want)
	}
}

// checkNoCircuit checks that a call failed and that its result is zero.
func checkNoCircuit(t *testing.T, what string, got impl.Circuit, ok bool) {
	t.Helper()
	if ok || got.Qubits != 0 || len(got.Gates) != 0 {
		t.Errorf("%s: got %v, %v, want failure", what, got, ok)
	}
}

func TestGateConstants(t *testing.T) {
	if impl.MaxQubits != maxQubits || impl.MaxGates != maxGates {
		t.Error("limits", impl.MaxQubits, impl.MaxGates)
	}
	for i, k := range gateKinds() {
		if k.kind != i+1 {
			t.Error("kind of", k.name, "is", k.kind)
		}
	}
}

func TestCircuitExample(t *testing.T) {
	c := circuit(2, gate(impl.GtH, 0, 0), gate(impl.GtT, 0, 0), gate(impl.GtCX, 0, 1))
	count, ok := impl.CountT(c)
	checkNumber(t, "CountT", count, ok, 1)
	count, ok = impl.CountTwo(c)
	checkNumber(t, "CountTwo", count, ok, 1)
	inverse, ok := impl.Inverse(c)
	checkCircuit(t, "inverse", inverse, ok, circuit(2, gate(impl.GtCX, 0, 1), gate(impl.GtTdg, 0, 0), gate(impl.GtH, 0, 0)))
	g, times, ok := impl.InverseGate(gate(impl.GtW, 0, 0))
	if g != gate(impl.GtW, 0, 0) || times != 7 || !ok {
		t.Error("inverse of GtW:", g, times, ok)
	}
	mapped, ok := impl.MapQubits(c, []int{1, 0}, 2)
	checkCircuit(t, "renamed", mapped, ok, circuit(2, gate(impl.GtH, 1, 0), gate(impl.GtT, 1, 0), gate(impl.GtCX, 1, 0)))
	text, ok := impl.FormatGate(mapped.Gates[2])
	if text != "CX 1 0" || !ok {
		t.Errorf("FormatGate: %q, %v", text, ok)
	}
	clifford, ok := impl.IsClifford(c)
	checkAnswer(t, "IsClifford", clifford, ok, false, true)
}

func TestGateInverses(t *testing.T) {
	for _, k := range gateKinds() {
		for _, g := range validGates(maxQubits) {
			if g.Kind != k.kind {
				continue
			}
			got, times, ok := impl.InverseGate(g)
			if got != gate(k.inverse, g.A, g.B) || times != k.times || !ok {
				t.Error("inverse of", g, "is", got, times, ok)
			}
			back, _, ok := impl.InverseGate(got)
			if back != g || !ok {
				t.Error("inverse of the inverse of", g, "is", back, ok)
			}
		}
	}
}

func TestGateTexts(t *testing.T) {
	digits := []string{"0", "1", "2", "3", "4"}
	seen := map[string]bool{}
	for _, k := range gateKinds() {
		for _, g := range validGates(maxQubits) {
			if g.Kind != k.kind {
				continue
			}
			want := k.name
			if k.qubits >= 1 {
				want += " " + digits[g.A]
			}
			if k.qubits == 2 {
				want += " " + digits[g.B]
			}
			got, ok := impl.FormatGate(g)
			if got != want || !ok || seen[got] {
				t.Errorf("text of %v is %q, %v, want %q", g, got, ok, want)
			}
			seen[got] = true
		}
	}
	if len(seen) != 8*5+3*20+1 {
		t.Error("number of texts:", len(seen))
	}
}

func TestGateTextsInFull(t *testing.T) {
	cases := map[string]impl.Gate{
		"H 0": gate(impl.GtH, 0, 0), "X 1": gate(impl.GtX, 1, 0), "Y 2": gate(impl.GtY, 2, 0), "Z 3": gate(impl.GtZ, 3, 0),
		"S 4": gate(impl.GtS, 4, 0), "S' 0": gate(impl.GtSdg, 0, 0), "T 1": gate(impl.GtT, 1, 0), "T' 2": gate(impl.GtTdg, 2, 0),
		"CX 0 4": gate(impl.GtCX, 0, 4), "CZ 4 0": gate(impl.GtCZ, 4, 0), "SWAP 3 2": gate(impl.GtSwap, 3, 2), "W": gate(impl.GtW, 0, 0),
	}
	for want, g := range cases {
		if got, ok := impl.FormatGate(g); got != want || !ok {
			t.Errorf("text of %v is %q, %v, want %q", g, got, ok, want)
		}
	}
}

func TestCircuitCounts(t *testing.T) {
	for _, c := range sampleCircuits() {
		count, ok := impl.CountT(c)
		checkNumber(t, "CountT", count, ok, gatesOf(c, 7, 8))
		count, ok = impl.CountTwo(c)
		checkNumber(t, "CountTwo", count, ok, gatesOf(c, 9, 10, 11))
		clifford, ok := impl.IsClifford(c)
		checkAnswer(t, "IsClifford", clifford, ok, gatesOf(c, 7, 8, 12) == 0, true)
	}
}

// TestCircuitCountsOfOneGate has every gate alone, and as the last or first one beside gates that are not counted.
func TestCircuitCountsOfOneGate(t *testing.T) {
	for _, g := range validGates(maxQubits) {
		for before := range 3 {
			for after := range 3 {
				gates := append(slices.Repeat([]impl.Gate{gate(impl.GtS, 4, 0)}, before), g)
				c := circuit(maxQubits, append(gates, slices.Repeat([]impl.Gate{gate(impl.GtH, 0, 0)}, after)...)...)
				count, ok := impl.CountT(c)
				checkNumber(t, "CountT", count, ok, gatesOf(circuit(5, g), impl.GtT, impl.GtTdg))
				count, ok = impl.CountTwo(c)
				checkNumber(t, "CountTwo", count, ok, gatesOf(circuit(5, g), impl.GtCX, impl.GtCZ, impl.GtSwap))
				clifford, ok := impl.IsClifford(c)
				checkAnswer(t, "IsClifford", clifford, ok, g.Kind < impl.GtT || g.Kind > impl.GtTdg && g.Kind < impl.GtW, true)
			}
		}
	}
}

// TestCircuitsWithoutGates has all functions of circuits at the shortest circuits.
func TestCircuitsWithoutGates(t *testing.T) {
	for n := 1; n <= maxQubits; n++ {
		for _, c := range []impl.Circuit{{Qubits: n}, {Qubits: n, Gates: []impl.Gate{}}} {
			inverse, ok := impl.Inverse(c)
			checkCircuit(t, "Inverse", inverse, ok, circuit(n))
			both, ok := impl.Concat(c, c)
			checkCircuit(t, "Concat", both, ok, circuit(n))
			mapped, ok := impl.MapQubits(c, []int{4, 3, 2, 1, 0}[:n], maxQubits)
			checkCircuit(t, "MapQubits", mapped, ok, circuit(maxQubits))
			count, ok := impl.CountT(c)
			checkNumber(t, "CountT", count, ok, 0)
			count, ok = impl.CountTwo(c)
			checkNumber(t, "CountTwo", count, ok, 0)
			clifford, ok := impl.IsClifford(c)
			checkAnswer(t, "IsClifford", clifford, ok, true, true)
		}
	}
}
