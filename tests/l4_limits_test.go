package tests

import (
	"math"
	"slices"
	"testing"

	"loop.example/g00864/impl"
)

// farInts are far outside of all ranges; some are a small number after the loss of their high bits.
func farInts() []int {
	return []int{
		100, -100, 255, 256, 257, 1<<16 + 1, 1 << 31, 1<<32 + 1, 1<<32 + 9, -1 << 31, -1 << 32, 1 << 62, -1 << 62,
		math.MaxInt - 1, math.MaxInt, math.MinInt + 1, math.MinInt,
	}
}

func invalidQubitCounts() []int {
	return append([]int{0, maxQubits + 1, -1, -2, -maxQubits, maxQubits + 2, 12, 13}, farInts()...)
}

// notQubits are no qubits of a circuit on n qubits.
func notQubits(n int) []int {
	return append([]int{-1, n, -2, n + 1, -n, 2 * n, 8, 9, 10}, farInts()...)
}

// invalidGates are not valid for n qubits.
func invalidGates(n int) []impl.Gate {
	var list []impl.Gate
	for _, kind := range append([]int{0, 13, -1, 14, -7, -12}, farInts()...) {
		list = append(list, gate(kind, 0, 0), gate(kind, n-1, 0), gate(kind, 0, n-1), gate(kind, kind, kind))
	}
	for _, k := range gateKinds() {
		for _, q := range notQubits(n) {
			list = append(list, gate(k.kind, q, 0), gate(k.kind, 0, q), gate(k.kind, q, n-1), gate(k.kind, n-1, q), gate(k.kind, q, q))
		}
		for q := range n {
			if k.qubits == 2 {
				list = append(list, gate(k.kind, q, q))
			}
			if k.qubits < 2 && q > 0 {
				list = append(list, gate(k.kind, 0, q), gate(k.kind, q, q), gate(k.kind, n-1, q))
			}
			if k.qubits == 0 && q > 0 {
				list = append(list, gate(k.kind, q, 0))
			}
		}
	}
	return list
}

// TestGateValidityInAGrid holds IsValidGate against the list of all valid gates.
func TestGateValidityInAGrid(t *testing.T) {
	for n := -3; n <= maxQubits+3; n++ {
		valid := map[impl.Gate]bool{}
		if n >= 1 && n <= maxQubits {
			for _, g := range validGates(n) {
				valid[g] = true
			}
		}
		count := 0
		for kind := -3; kind <= 20; kind++ {
			for a := -3; a <= 9; a++ {
				for b := -3; b <= 9; b++ {
					g := gate(kind, a, b)
					if got := impl.IsValidGate(n, g); got != valid[g] {
						t.Error("validity of", g, "for", n, "qubits:", got)
					} else if got {
						count++
					}
				}
			}
		}
		if count != len(valid) || len(valid) > 0 && count != 8*n+3*n*(n-1)+1 {
			t.Error("number of gates for", n, "qubits:", count)
		}
	}
}

func TestGateInvalid(t *testing.T) {
	for n := 1; n <= maxQubits; n++ {
		for _, g := range invalidGates(n) {
			if impl.IsValidGate(n, g) {
				t.Error("valid for", n, "qubits:", g)
			}
		}
	}
	for _, n := range invalidQubitCounts() {
		for _, g := range validGates(maxQubits) {
			if impl.IsValidGate(n, g) {
				t.Error("valid for", n, "qubits:", g)
			}
			checkInvalidCircuit(t, circuit(n, g))
		}
		checkInvalidCircuit(t, circuit(n))
	}
	checkInvalidCircuit(t, impl.Circuit{})
}

// TestGateOfMaxQubits has gates that are valid for MaxQubits qubits only, and those that are valid for none.
func TestGateOfMaxQubits(t *testing.T) {
	for _, g := range validGates(maxQubits) {
		if g.A != 4 && g.B != 4 {
			continue
		}
		_, _, inverted := impl.InverseGate(g)
		_, formatted := impl.FormatGate(g)
		if impl.IsValidGate(4, g) || !impl.IsValidGate(5, g) || !inverted || !formatted {
			t.Error("a gate on qubit 4:", g, inverted, formatted)
		}
	}
	for _, g := range invalidGates(maxQubits) {
		back, times, ok := impl.InverseGate(g)
		if back != (impl.Gate{}) || times != 0 || ok {
			t.Error("inverse of", g, "is", back, times, ok)
		}
		if text, ok := impl.FormatGate(g); text != "" || ok {
			t.Errorf("text of %v is %q, %v", g, text, ok)
		}
	}
}

// checkInvalidCircuit calls every function that has a circuit as an argument.
func checkInvalidCircuit(t *testing.T, c impl.Circuit) {
	t.Helper()
	if impl.IsValidCircuit(c) {
		t.Error("valid:", c)
	}
	got, ok := impl.Inverse(c)
	checkNoCircuit(t, "Inverse", got, ok)
	for _, d := range []impl.Circuit{c, circuit(c.Qubits), circuit(1), circuit(maxQubits)} {
		got, ok = impl.Concat(c, d)
		checkNoCircuit(t, "Concat in front", got, ok)
		got, ok = impl.Concat(d, c)
		checkNoCircuit(t, "Concat behind", got, ok)
	}
	count, ok := impl.CountT(c)
	checkNoNumber(t, "CountT", count, ok)
	count, ok = impl.CountTwo(c)
	checkNoNumber(t, "CountTwo", count, ok)
	clifford, ok := impl.IsClifford(c)
	checkAnswer(t, "IsClifford", clifford, ok, false, false)
	for k := range maxQubits + 2 {
		for _, n := range []int{c.Qubits, k, maxQubits} {
			got, ok = impl.MapQubits(c, []int{0, 1, 2, 3, 4, 5}[:k], n)
			checkNoCircuit(t, "MapQubits", got, ok)
		}
	}
}

func TestCircuitWithAnInvalidGate(t *testing.T) {
	for n := 1; n <= maxQubits; n++ {
		for k, g := range invalidGates(n) {
			checkInvalidCircuit(t, circuit(n, g))
			c := sampleCircuit(n, 8, k)
			c.Gates[[]int{0, 3, 7}[k%3]] = g
			checkInvalidCircuit(t, c)
		}
	}
	for place := range maxGates {
		c := sampleCircuit(2, maxGates, 1)
		c.Gates[place] = gate(impl.GtCX, 1, 2)
		checkInvalidCircuit(t, c)
	}
}

// repeatedGate returns a circuit with the same gate count times.
func repeatedGate(n int, g impl.Gate, count int) impl.Circuit {
	return circuit(n, slices.Repeat([]impl.Gate{g}, count)...)
}

func TestCircuitOfMaxGates(t *testing.T) {
	for n := 1; n <= maxQubits; n++ {
		for _, g := range validGates(n) {
			c := repeatedGate(n, g, maxGates)
			if !impl.IsValidCircuit(c) {
				t.Error("not valid: MaxGates times", g)
			}
			checkInvalidCircuit(t, repeatedGate(n, g, maxGates+1))
			count, ok := impl.CountT(c)
			checkNumber(t, "CountT", count, ok, gatesOf(c, impl.GtT, impl.GtTdg))
			count, ok = impl.CountTwo(c)
			checkNumber(t, "CountTwo", count, ok, gatesOf(c, impl.GtCX, impl.GtCZ, impl.GtSwap))
			mapped, ok := impl.MapQubits(c, []int{0, 1, 2, 3, 4}[:n], n)
			checkCircuit(t, "MapQubits", mapped, ok, c)
			inverse, ok := impl.Inverse(c)
			if g.Kind == impl.GtW {
				checkNoCircuit(t, "Inverse", inverse, ok)
			} else {
				back, _, _ := impl.InverseGate(g)
				checkCircuit(t, "Inverse", inverse, ok, repeatedGate(n, back, maxGates))
			}
		}
		checkInvalidCircuit(t, repeatedGate(n, gate(impl.GtH, 0, 0), 2*maxGates))
		checkInvalidCircuit(t, repeatedGate(n, gate(impl.GtH, 0, 0), 1<<16))
	}
}

// TestInverseOfPhases has inverses that grow to MaxGates gates and beyond because of GtW.
func TestInverseOfPhases(t *testing.T) {
	w, x := gate(impl.GtW, 0, 0), gate(impl.GtX, 1, 0)
	for phases := range maxGates + 1 {
		for _, others := range []int{0, 1, maxGates - 7*phases, maxGates - 7*phases + 1} {
			if others < 0 || phases+others > maxGates {
				continue
			}
			list := slices.Repeat([]impl.Gate{w}, phases)
			c := circuit(2, append(list, slices.Repeat([]impl.Gate{x}, others)...)...)
			got, ok := impl.Inverse(c)
			if 7*phases+others > maxGates {
				checkNoCircuit(t, "Inverse", got, ok)
				continue
			}
			want := append(slices.Repeat([]impl.Gate{x}, others), slices.Repeat([]impl.Gate{w}, 7*phases)...)
			checkCircuit(t, "Inverse", got, ok, circuit(2, want...))
		}
	}
}

func TestConcatLimits(t *testing.T) {
	for _, first := range []int{0, 1, 2, 199, 200, 201, 399, 400, 401, 800} {
		for _, second := range []int{0, 1, 2, 199, 200, 201, 399, 400, 401, 800} {
			a, b := repeatedGate(3, gate(impl.GtT, 2, 0), first), repeatedGate(3, gate(impl.GtSwap, 0, 2), second)
			got, ok := impl.Concat(a, b)
			if first+second > maxGates {
				checkNoCircuit(t, "Concat", got, ok)
			} else {
				checkCircuit(t, "Concat", got, ok, circuit(3, slices.Concat(a.Gates, b.Gates)...))
			}
		}
	}
}

func TestConcatQubits(t *testing.T) {
	for n := 0; n <= maxQubits+1; n++ {
		for m := 0; m <= maxQubits+1; m++ {
			g := gate(impl.GtH, 0, 0)
			for _, pair := range [][2]impl.Circuit{{circuit(n), circuit(m)}, {circuit(n, g), circuit(m)}, {circuit(n), circuit(m, g)}, {circuit(n, g), circuit(m, g)}} {
				got, ok := impl.Concat(pair[0], pair[1])
				if n == m && n >= 1 && n <= maxQubits {
					checkCircuit(t, "Concat", got, ok, circuit(n, slices.Concat(pair[0].Gates, pair[1].Gates)...))
				} else {
					checkNoCircuit(t, "Concat", got, ok)
				}
			}
		}
	}
}

// TestCircuitGatesBehindTheLength has gates that are not valid, or missing ones, in the spare capacity.
func TestCircuitGatesBehindTheLength(t *testing.T) {
	gates := make([]impl.Gate, 500)
	gates[0], gates[1] = gate(impl.GtT, 0, 0), gate(impl.GtCZ, 1, 0)
	c := impl.Circuit{Qubits: 2, Gates: gates[:2]}
	if !impl.IsValidCircuit(c) || !impl.EqualCircuits(c, circuit(2, gates[0], gates[1])) {
		t.Error("a gate behind the length was read")
	}
	count, ok := impl.CountT(c)
	checkNumber(t, "CountT", count, ok, 1)
	got, ok := impl.Concat(c, c)
	checkCircuit(t, "Concat", got, ok, circuit(2, gates[0], gates[1], gates[0], gates[1]))
	if impl.EqualCircuits(c, impl.Circuit{Qubits: 2, Gates: gates[:1]}) || impl.EqualCircuits(impl.Circuit{Qubits: 2, Gates: gates[:3]}, c) {
		t.Error("equal to a circuit with another number of gates")
	}
}

// TestEqualCircuits compares any two of many values, valid or not; the list has no two that are equal.
func TestEqualCircuits(t *testing.T) {
	list := []impl.Circuit{{}, circuit(0, impl.Gate{}), circuit(0, impl.Gate{}, impl.Gate{}), circuit(-1), circuit(6), circuit(math.MaxInt), circuit(math.MinInt)}
	for n := 1; n <= maxQubits; n++ {
		list = append(list, circuit(n), sampleCircuit(n, 5, n), sampleCircuit(n, 6, n), sampleCircuit(n, maxGates, n), repeatedGate(n, gate(impl.GtH, 0, 0), maxGates+1))
		for _, g := range append(validGates(2), gate(0, 0, 0), gate(13, 0, 0), gate(1, 0, 1), gate(1, -1, 0), gate(1, 0, -1), gate(math.MinInt, 0, 0), gate(1, math.MaxInt, 0), gate(1, 0, math.MaxInt)) {
			list = append(list, circuit(n, g), circuit(n, gate(1, 0, 0), g, gate(2, 0, 0)), circuit(n, gate(2, 0, 0), gate(1, 0, 0), g))
		}
	}
	for i, a := range list {
		for j, b := range list {
			// A copy has the same gates in other memory.
			b.Gates = slices.Clone(b.Gates)
			if got := impl.EqualCircuits(a, b); got != (i == j) {
				t.Error("equality of", a, b, "is", got)
			}
		}
	}
	for _, n := range append(invalidQubitCounts(), 1, 5) {
		none, empty := impl.Circuit{Qubits: n}, impl.Circuit{Qubits: n, Gates: []impl.Gate{}}
		if !impl.EqualCircuits(none, empty) || !impl.EqualCircuits(empty, none) || !impl.EqualCircuits(none, none) {
			t.Error("nil and empty gates differ for", n)
		}
	}
}
