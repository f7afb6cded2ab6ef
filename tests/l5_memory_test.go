package tests

import (
	"slices"
	"strings"
	"testing"

	"loop.example/g00864/impl"
)

// textMemoryCases are texts with and without faults whose results could share memory: with calls alone, and with repetitions of one block.
func textMemoryCases() []string {
	return []string{
		"", "qubits 1\n", "qubits 1\nH 1\n", "qubits 1\nH 0", exampleText(),
		joined("qubits 2", "def f 2 {", "CX 0 1", "H 1", "}", "call f 0 1"),
		joined("qubits 2", "def f 2 {", "CX 0 1", "H 1", "}", "def g 2 {", "call f 0 1", "}", "call g 0 1"),
		joined("qubits 1", "def f 1 {", "}", "def g 1 {", "repeat 50 {", "T 0", "}", "}", "repeat 4 {", "call g 0", "}"),
		joined("qubits 1", "def f 1 {", "W", "}", "def g 1 {", "call f 0", "}", "def h 1 {", "call f 0", "}"),
		joined(textLines(ws(maxGates))...), joined(textLines(ws(maxGates + 1))...), joined(textLines(repeatLines([]int{20, 20}, "W"))...),
	}
}

func TestTextResultsAreFresh(t *testing.T) {
	for _, s := range textMemoryCases() {
		before := strings.Clone(s)
		checkFresh(t, "ParseCircuit", func() (impl.Circuit, bool) { return impl.ParseCircuit(s) })
		for _, name := range []string{"f", "g", "h", ""} {
			checkFresh(t, "SubcircuitOf", func() (impl.Circuit, bool) { return impl.SubcircuitOf(s, name) })
		}
		first, ok := impl.DefinedNames(s)
		second, fine := impl.DefinedNames(s)
		if ok != fine || !slices.Equal(first, second) {
			t.Error("DefinedNames has two results:", first, ok, second, fine)
		}
		kept := slices.Clone(second)
		for k := range first[:cap(first)] {
			first[:cap(first)][k] = "spoilt"
		}
		if !slices.Equal(second, kept) {
			t.Error("DefinedNames shares memory of two results")
		}
		if s != before {
			t.Error("a text was changed:", shown(before))
		}
	}
}

// TestTextResultsAreSeparate spoils the circuit of one definition, which another one consists of, and then asks for all others.
func TestTextResultsAreSeparate(t *testing.T) {
	s := joined("qubits 2", "def f 2 {", "CX 0 1", "H 1", "}", "def g 2 {", "call f 0 1", "}", "call g 0 1")
	f, _ := impl.SubcircuitOf(s, "f")
	g, _ := impl.SubcircuitOf(s, "g")
	c, _ := impl.ParseCircuit(s)
	want := circuitOf(2, "CX 0 1", "H 1")
	spoilCircuit(f)
	checkCircuit(t, "g", g, true, want)
	spoilCircuit(g)
	checkCircuit(t, "the text", c, true, want)
	spoilCircuit(c)
	checkDefined(t, s, "f", 2, "CX 0 1", "H 1")
	checkDefined(t, s, "g", 2, "CX 0 1", "H 1")
	checkParsed(t, s, 2, "CX 0 1", "H 1")
}

// TestFormattingMemory has circuits with spare capacity, filled with gates that are not valid.
func TestFormattingMemory(t *testing.T) {
	for _, c := range append(circuitMemoryCases(), foldableCircuits()...) {
		g := guardCircuit(c)
		want, ok := impl.FormatCircuit(c)
		if s, fine := impl.FormatCircuit(g.c); s != want || fine != ok {
			t.Errorf("FormatCircuit of %v: %s, %v", c, shown(s), fine)
		}
		g.check(t, "FormatCircuit")
		want, ok = impl.FoldCircuit(c)
		if s, fine := impl.FoldCircuit(g.c); s != want || fine != ok || ok != impl.IsValidCircuit(c) {
			t.Errorf("FoldCircuit of %v: %s, %v", c, shown(s), fine)
		}
		g.check(t, "FoldCircuit")
	}
}

// TestFoldCircuitBehindTheLength has repetitions that go on behind the length of the gates.
func TestFoldCircuitBehindTheLength(t *testing.T) {
	for _, c := range foldableCircuits()[:100] {
		for length := range min(len(c.Gates), 60) {
			short := impl.Circuit{Qubits: c.Qubits, Gates: c.Gates[:length]}
			want := referenceFold(circuit(c.Qubits, slices.Clone(short.Gates)...))
			if s, ok := impl.FoldCircuit(short); s != want || !ok {
				t.Errorf("FoldCircuit of %v: %s, %v", short, shown(s), ok)
			}
		}
	}
}

// TestTextOfAnyBytes has all short strings, and long strings of any bytes, as texts and as names.
func TestTextOfAnyBytes(t *testing.T) {
	m := newTextModel()
	for b := range 256 {
		checkAnyBytes(t, m, string([]byte{byte(b)}))
		for c := range 256 {
			checkAnyBytes(t, m, string([]byte{byte(b), byte(c)}))
			checkAnyBytes(t, m, "qubits 1\n"+string([]byte{byte(b), byte(c)})+"\n")
		}
	}
	d := dice(3)
	for size := range 300 {
		bytes := make([]byte, 7*size)
		for k := range bytes {
			bytes[k] = byte(d.below(256))
		}
		checkAnyBytes(t, m, string(bytes))
		checkAnyBytes(t, m, "qubits 1\n"+string(bytes)+"\n")
	}
}

func checkAnyBytes(t *testing.T, m *textModel, s string) {
	t.Helper()
	code, line := m.read(s)
	if gotCode, gotLine := impl.CheckText(s); gotCode != code || gotLine != line {
		t.Errorf("CheckText of %s: got %d, %d, want %d, %d", shown(s), gotCode, gotLine, code, line)
	}
	if c, ok := impl.ParseCircuit(s); ok != (code == impl.TextOK) || ok != impl.IsValidCircuit(c) {
		t.Errorf("ParseCircuit of %s: %v, %v", shown(s), c, ok)
	}
	if c, ok := impl.SubcircuitOf(exampleText(), s); ok != (s == "f") || ok != impl.IsValidCircuit(c) {
		t.Errorf("SubcircuitOf for the name %s: %v, %v", shown(s), c, ok)
	}
	if c, ok := impl.SubcircuitOf(s, "f"); ok || c.Qubits != 0 || len(c.Gates) != 0 {
		t.Errorf("SubcircuitOf %s: %v, %v", shown(s), c, ok)
	}
	if names, ok := impl.DefinedNames(s); ok != (code == impl.TextOK) || len(names) != 0 {
		t.Errorf("DefinedNames of %s: %q, %v", shown(s), names, ok)
	}
}
