package tests

import (
	"strings"
	"testing"

	"loop.example/g00864/impl"
)

func TestFormMemoryOfForms(t *testing.T) {
	for _, f := range append(manyForms(), form("HT", 0, 0), form("", 24, 0), form("T", 0, 8)) {
		kept := form(strings.Clone(f.Syllables), f.Clifford, f.Phase)
		checkFreshMatrix(t, "MatrixOfForm", func() (impl.Matrix, bool) { return impl.MatrixOfForm(f) })
		checkFreshCircuit(t, "CircuitOfForm", func() (impl.Circuit, bool) { return impl.CircuitOfForm(f) })
		valid := impl.IsValidForm(f)
		text, ok := impl.FormatForm(f)
		again, fine := impl.FormatForm(f)
		if ok != valid || fine != valid || text != again || f != kept {
			t.Error("FormatForm has two results:", f, text, again)
		}
		parsed, ok := impl.ParseForm(text)
		other, fine := impl.ParseForm(text)
		if ok != valid || fine != valid || parsed != other {
			t.Error("ParseForm has two results:", text, parsed, other)
		}
	}
}

func TestFormMemoryOfMatrices(t *testing.T) {
	list := append(memoryCases(), notUnitary()...)
	for count := range 63 {
		list = append(list, letterOperator(t, normalWord(count, 4)))
	}
	for _, m := range list {
		g := guard(m)
		plain, ok := impl.NormalFormOf(m)
		got, fine := impl.NormalFormOf(g.m)
		again, sure := impl.NormalFormOf(g.m)
		if plain != got || got != again || ok != fine || fine != sure {
			t.Error("NormalFormOf has two results:", m, plain, got, again)
		}
		g.check(t, "NormalFormOf")
		count, ok := impl.LeastTCount(m)
		other, fine := impl.LeastTCount(g.m)
		if count != other || ok != fine {
			t.Error("LeastTCount has two results:", m, count, other)
		}
		g.check(t, "LeastTCount")
	}
}

func TestFormMemoryOfCircuits(t *testing.T) {
	list := circuitMemoryCases()
	for _, word := range oneQubitWords() {
		list = append(list, letterCircuit(word))
	}
	for _, c := range append(list, letterCircuit(normalWord(45, 1)), letterCircuit(strings.Repeat("TH", 200))) {
		g := guardCircuit(c)
		checkFreshCircuit(t, "ReduceOneQubit", func() (impl.Circuit, bool) { return impl.ReduceOneQubit(g.c) })
		g.check(t, "ReduceOneQubit")
		plain, ok := impl.ReduceOneQubit(c)
		guarded, fine := impl.ReduceOneQubit(g.c)
		if ok != fine || !sameCircuit(plain, guarded) {
			t.Error("ReduceOneQubit reads gates behind the length:", c)
		}
		spoilCircuit(guarded)
		g.check(t, "ReduceOneQubit with a spoilt result")
	}
}

func TestFormsOfNilLists(t *testing.T) {
	for _, gates := range [][]impl.Gate{nil, {}} {
		got, ok := impl.ReduceOneQubit(impl.Circuit{Qubits: 1, Gates: gates})
		checkCircuit(t, "ReduceOneQubit without gates", got, ok, circuit(1))
		checkNotReduced(t, impl.Circuit{Qubits: 2, Gates: gates})
		checkNotReduced(t, impl.Circuit{Gates: gates})
	}
	for _, cells := range [][]impl.Dyadic{nil, {}} {
		checkNoFormOf(t, impl.Matrix{Cells: cells})
		checkNoFormOf(t, impl.Matrix{Rows: 2, Cols: 2, Cells: cells})
	}
	got, ok := impl.CircuitOfForm(impl.NormalForm{})
	checkCircuit(t, "CircuitOfForm of the form without syllables", got, ok, circuit(1))
}
