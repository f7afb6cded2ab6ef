package tests

import (
	"slices"
	"testing"

	"loop.example/g00864/impl"
)

// checkFreshCircuit calls f three times and spoils its results one by one.
func checkFreshCircuit(t *testing.T, what string, f func() (impl.Circuit, bool)) {
	t.Helper()
	first, ok := f()
	kept := circuit(first.Qubits, slices.Clone(first.Gates)...)
	checkFresh(t, what, f)
	spoilCircuit(first)
	if again, fine := f(); ok != fine || !sameCircuit(again, kept) {
		t.Error(what, "has another result after its results were spoilt:", again, fine)
	}
}

// cliffordMemoryCases are valid and not valid tableaux, among them those of gates and of Pauli operators.
func cliffordMemoryCases(t *testing.T) []impl.Tableau {
	list := tableauMemoryCases(t)
	for n := 1; n <= maxQubits; n++ {
		for _, c := range cliffordCircuits(n)[:7] {
			list = append(list, plainRun(c).tableau())
		}
		list = append(list, withSigns(generators(n), 1<<(2*n)-1))
	}
	return list
}

func TestCliffordMemoryOfTableaux(t *testing.T) {
	for _, of := range cliffordMemoryCases(t) {
		g := guardTableau(of)
		checkFreshCircuit(t, "SynthesizeClifford", func() (impl.Circuit, bool) { return impl.SynthesizeClifford(g.of) })
		g.check(t, "SynthesizeClifford")
		checkFreshCircuit(t, "LeastWord", func() (impl.Circuit, bool) { return impl.LeastWord(g.of) })
		g.check(t, "LeastWord")
		plain, ok := impl.SynthesizeClifford(of)
		guarded, fine := impl.SynthesizeClifford(g.of)
		if ok != fine || !sameCircuit(plain, guarded) {
			t.Error("SynthesizeClifford reads images behind the length:", of)
		}
		plain, ok = impl.LeastWord(of)
		guarded, fine = impl.LeastWord(g.of)
		if ok != fine || !sameCircuit(plain, guarded) {
			t.Error("LeastWord reads images behind the length:", of)
		}
		checkAnswersOfGuarded(t, of, g)
		g.check(t, "a question")
	}
}

// checkAnswersOfGuarded calls the functions that return no circuit.
func checkAnswersOfGuarded(t *testing.T, of impl.Tableau, g guardedTableau) {
	t.Helper()
	only, ok := impl.SignOnly(of)
	again, fine := impl.SignOnly(g.of)
	if only != again || ok != fine {
		t.Error("SignOnly has two results:", of)
	}
	p, ok := impl.PauliFrameOf(of)
	second, fine := impl.PauliFrameOf(g.of)
	if p != second || ok != fine {
		t.Error("PauliFrameOf has two results:", of)
	}
	length, ok := impl.LeastWordLength(of)
	other, fine := impl.LeastWordLength(g.of)
	if length != other || ok != fine {
		t.Error("LeastWordLength has two results:", of)
	}
	length, ok = impl.OrderOf(of)
	other, fine = impl.OrderOf(g.of)
	if length != other || ok != fine {
		t.Error("OrderOf has two results:", of)
	}
}

func TestCliffordMemoryOfCircuits(t *testing.T) {
	circuits := circuitMemoryCases()
	for n := 1; n <= 3; n++ {
		circuits = append(circuits, cliffordCircuits(n)[:9]...)
	}
	for _, a := range circuits {
		g := guardCircuit(a)
		checkFreshCircuit(t, "NormalizeClifford", func() (impl.Circuit, bool) { return impl.NormalizeClifford(g.c) })
		g.check(t, "NormalizeClifford")
		plain, ok := impl.NormalizeClifford(a)
		guarded, fine := impl.NormalizeClifford(g.c)
		if ok != fine || !sameCircuit(plain, guarded) {
			t.Error("NormalizeClifford reads gates behind the length:", a)
		}
		for _, b := range circuits {
			h := guardCircuit(b)
			same, ok := impl.SameClifford(a, b)
			again, fine := impl.SameClifford(g.c, h.c)
			if same != again || ok != fine {
				t.Error("SameClifford has two results:", a, b)
			}
			h.check(t, "SameClifford")
		}
		same, ok := impl.SameClifford(g.c, g.c)
		if _, exists := impl.TableauOf(a); same != exists || ok != exists {
			t.Error("SameClifford of one circuit twice:", a, same, ok)
		}
		g.check(t, "SameClifford")
	}
}

// TestCliffordWithListsInOneArray has the images of Z in the spare capacity of those of X.
func TestCliffordWithListsInOneArray(t *testing.T) {
	for n := 1; n <= maxQubits; n++ {
		for _, of := range validTableaux(t, n) {
			all := slices.Concat(of.XImages, of.ZImages)
			before, joined := slices.Clone(all), impl.Tableau{Qubits: n, XImages: all[:n], ZImages: all[n:]}
			checkSynthesis(t, joined)
			checkFrame(t, joined)
			checkOrderOf(t, joined)
			want, known := impl.LeastWord(of)
			got, ok := impl.LeastWord(joined)
			if known != (n <= 2) || known != ok || !sameCircuit(want, got) {
				t.Error("LeastWord has two results:", of)
			}
			// One list for both kinds of images is never valid, and not changed either.
			checkNotClifford(t, impl.Tableau{Qubits: n, XImages: all[:n], ZImages: all[:n]})
			if !slices.Equal(all, before) {
				t.Error("an argument was changed:", all, before)
			}
		}
	}
}

func TestCliffordWithNilLists(t *testing.T) {
	for n := -1; n <= maxQubits+1; n++ {
		for _, of := range []impl.Tableau{{Qubits: n}, {Qubits: n, XImages: []impl.Pauli{}}, {Qubits: n, XImages: []impl.Pauli{}, ZImages: []impl.Pauli{}}} {
			checkNotClifford(t, of)
		}
	}
	for n := 1; n <= maxQubits; n++ {
		empty := impl.Circuit{Qubits: n, Gates: []impl.Gate{}}
		got, ok := impl.NormalizeClifford(empty)
		checkCircuit(t, "NormalizeClifford of empty gates", got, ok, circuit(n))
		checkSame(t, empty, circuit(n), true)
	}
}
