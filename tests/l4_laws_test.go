package tests

import (
	"slices"
	"testing"

	"loop.example/g00864/impl"
)

// mustCircuit returns a function that unwraps a call that must succeed.
func mustCircuit(t *testing.T) func(impl.Circuit, bool) impl.Circuit {
	return func(c impl.Circuit, ok bool) impl.Circuit {
		t.Helper()
		if !ok || !impl.IsValidCircuit(c) {
			t.Error("a call failed or its result is not valid:", c, ok)
		}
		return c
	}
}

// mustCount unwraps a count that must exist.
func mustCount(t *testing.T) func(int, bool) int {
	return func(count int, ok bool) int {
		t.Helper()
		if !ok {
			t.Error("a count does not exist")
		}
		return count
	}
}

// lawCircuits are samples whose inverses, and those of any two of them, have at most MaxGates gates.
func lawCircuits(n int) []impl.Circuit {
	list := []impl.Circuit{circuit(n), circuit(n, gate(impl.GtW, 0, 0)), circuit(n, validGates(n)...)}
	for count := 1; count <= 31; count += 6 {
		list = append(list, sampleCircuit(n, count, count+n))
	}
	return list
}

// TestInverseGateForGate builds the inverse from the document's table of inverses.
func TestInverseGateForGate(t *testing.T) {
	kinds := gateKinds()
	for n := 1; n <= maxQubits; n++ {
		for _, c := range lawCircuits(n) {
			var want []impl.Gate
			for _, g := range slices.Backward(c.Gates) {
				k := kinds[g.Kind-1]
				want = append(want, slices.Repeat([]impl.Gate{gate(k.inverse, g.A, g.B)}, k.times)...)
			}
			got, ok := impl.Inverse(c)
			checkCircuit(t, "Inverse", got, ok, circuit(n, want...))
			if len(got.Gates) != len(c.Gates)+6*gatesOf(c, impl.GtW) {
				t.Error("number of gates of the inverse of", c, "is", len(got.Gates))
			}
		}
	}
}

func TestInverseTwice(t *testing.T) {
	kept := mustCircuit(t)
	for n := 1; n <= maxQubits; n++ {
		for _, c := range append(lawCircuits(n), sampleCircuit(n, maxGates, 3)) {
			// Without GtW the inverse of the inverse is the circuit itself.
			c.Gates = slices.DeleteFunc(slices.Clone(c.Gates), func(g impl.Gate) bool { return g.Kind == impl.GtW })
			inverse := kept(impl.Inverse(c))
			twice, ok := impl.Inverse(inverse)
			checkCircuit(t, "Inverse twice", twice, ok, c)
			checkSameCounts(t, c, inverse)
		}
	}
}

func TestInverseCounts(t *testing.T) {
	kept, number := mustCircuit(t), mustCount(t)
	for n := 1; n <= maxQubits; n++ {
		for _, c := range lawCircuits(n) {
			inverse := kept(impl.Inverse(c))
			first, ok := impl.IsClifford(c)
			second, fine := impl.IsClifford(inverse)
			if number(impl.CountT(c)) != number(impl.CountT(inverse)) || number(impl.CountTwo(c)) != number(impl.CountTwo(inverse)) || !ok || !fine || first != second {
				t.Error("the counts of the inverse differ:", c)
			}
			if gatesOf(inverse, impl.GtT) != gatesOf(c, impl.GtTdg) || gatesOf(inverse, impl.GtS) != gatesOf(c, impl.GtSdg) {
				t.Error("gates are not inverted:", c, inverse)
			}
		}
	}
}

func TestConcatCounts(t *testing.T) {
	kept, number := mustCircuit(t), mustCount(t)
	for n := 1; n <= maxQubits; n++ {
		for _, a := range lawCircuits(n) {
			for _, b := range lawCircuits(n) {
				c := kept(impl.Concat(a, b))
				checkCircuit(t, "Concat", c, true, circuit(n, slices.Concat(a.Gates, b.Gates)...))
				if number(impl.CountT(c)) != number(impl.CountT(a))+number(impl.CountT(b)) || number(impl.CountTwo(c)) != number(impl.CountTwo(a))+number(impl.CountTwo(b)) {
					t.Error("the counts are not the sums:", a, b)
				}
				first, _ := impl.IsClifford(a)
				second, _ := impl.IsClifford(b)
				if both, ok := impl.IsClifford(c); !ok || both != (first && second) {
					t.Error("IsClifford of a concatenation:", a, b, both)
				}
			}
		}
	}
}

func TestConcatLaws(t *testing.T) {
	kept := mustCircuit(t)
	for n := 1; n <= maxQubits; n++ {
		for _, a := range lawCircuits(n) {
			checkCircuit(t, "empty circuit in front", kept(impl.Concat(circuit(n), a)), true, a)
			checkCircuit(t, "empty circuit behind", kept(impl.Concat(a, circuit(n))), true, a)
			for _, b := range lawCircuits(n) {
				both := kept(impl.Concat(a, b))
				if backwards := kept(impl.Concat(b, a)); (sameCircuit(a, b) || len(a.Gates)*len(b.Gates) == 0) && !sameCircuit(both, backwards) {
					t.Error("the order matters:", a, b)
				}
				if 7*gatesOf(both, impl.GtW)+len(both.Gates) <= maxGates {
					want := kept(impl.Concat(kept(impl.Inverse(b)), kept(impl.Inverse(a))))
					checkCircuit(t, "inverse of a concatenation", kept(impl.Inverse(both)), true, want)
				}
				c := sampleCircuit(n, 7, 9)
				left, right := kept(impl.Concat(both, c)), kept(impl.Concat(a, kept(impl.Concat(b, c))))
				checkCircuit(t, "three circuits", left, true, right)
			}
		}
	}
}

// TestMapQubitsLaws has renaming before and after inverting and concatenating.
func TestMapQubitsLaws(t *testing.T) {
	kept := mustCircuit(t)
	for n := 1; n <= 4; n++ {
		a, b := sampleCircuit(n, 25, n), circuit(n, validGates(n)...)
		for _, to := range renamings(n, n+1) {
			c, d := kept(impl.MapQubits(a, to, n+1)), kept(impl.MapQubits(b, to, n+1))
			both := kept(impl.MapQubits(kept(impl.Concat(a, b)), to, n+1))
			checkCircuit(t, "concatenation renamed", both, true, kept(impl.Concat(c, d)))
			inverse := kept(impl.MapQubits(kept(impl.Inverse(a)), to, n+1))
			checkCircuit(t, "inverse renamed", inverse, true, kept(impl.Inverse(c)))
		}
	}
}

// kindMatrix returns the matrix of a kind of gates, on as many qubits as it acts on.
func kindMatrix(kind int) impl.Matrix {
	zero, one, minus := whole(0), whole(1), whole(-1)
	phase := func(x impl.Dyadic) impl.Matrix { return matrix(2, 2, one, zero, zero, x) }
	switch kind {
	case impl.GtH:
		return hadamard()
	case impl.GtX:
		return matrix(2, 2, zero, one, one, zero)
	case impl.GtY:
		return matrix(2, 2, zero, minusI, plusI, zero)
	case impl.GtZ:
		return phase(minus)
	case impl.GtS:
		return phase(plusI)
	case impl.GtSdg:
		return phase(minusI)
	case impl.GtT:
		return phase(omega)
	case impl.GtTdg:
		return phase(minusCube)
	case impl.GtCX:
		return wholeMatrix(4, 4, 1, 0, 0, 0, 0, 1, 0, 0, 0, 0, 0, 1, 0, 0, 1, 0)
	case impl.GtCZ:
		return wholeMatrix(4, 4, 1, 0, 0, 0, 0, 1, 0, 0, 0, 0, 1, 0, 0, 0, 0, -1)
	case impl.GtSwap:
		return wholeMatrix(4, 4, 1, 0, 0, 0, 0, 0, 1, 0, 0, 1, 0, 0, 0, 0, 0, 1)
	}
	return matrix(1, 1, omega)
}

// TestInverseGateUndoes multiplies the matrices of a gate and of its inverse.
func TestInverseGateUndoes(t *testing.T) {
	kept := mustMatrix(t)
	for _, k := range gateKinds() {
		g := gate(k.kind, 0, 0)
		if k.qubits == 2 {
			g.B = 1
		}
		back, times, ok := impl.InverseGate(g)
		product := kindMatrix(g.Kind)
		for range times {
			product = kept(impl.MulMatrix(kindMatrix(back.Kind), product))
		}
		checkMatrix(t, "a gate and its inverse: "+k.name, product, ok, identity(product.Rows))
	}
}
