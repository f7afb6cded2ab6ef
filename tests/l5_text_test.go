package tests

import (
	"slices"
	"strconv"
	"strings"
	"testing"

	"loop.example/g00864/impl"
)

const maxText = 8000

// joined returns the text with the given lines.
func joined(lines ...string) string {
	var text strings.Builder
	for _, line := range lines {
		text.WriteString(line + "\n")
	}
	return text.String()
}

// shown quotes a text for a message, without the middle of a long one.
func shown(s string) string {
	if len(s) > 300 {
		return strconv.Quote(s[:120]) + " .. " + strconv.Quote(s[len(s)-60:])
	}
	return strconv.Quote(s)
}

// probeNames are names, and strings that are none, which texts may or may not define.
func probeNames() []string {
	return []string{"f", "g", "a", "ab", "call", "nope", "", "F", "f 1"}
}

// checkCode checks the code and the line of a text, and that exactly the code 0 lets the other functions succeed.
func checkCode(t *testing.T, s string, code int, line int) {
	t.Helper()
	if gotCode, gotLine := impl.CheckText(s); gotCode != code || gotLine != line {
		t.Errorf("CheckText of %s: got %d, %d, want %d, %d", shown(s), gotCode, gotLine, code, line)
	}
	c, parsed := impl.ParseCircuit(s)
	names, listed := impl.DefinedNames(s)
	if succeeds := code == impl.TextOK; parsed != succeeds || listed != succeeds {
		t.Errorf("the code of %s is %d, but ParseCircuit and DefinedNames return %v and %v", shown(s), code, parsed, listed)
	}
	if parsed && !impl.IsValidCircuit(c) {
		t.Errorf("ParseCircuit of %s: not valid: %v", shown(s), c)
	}
	if !parsed && (c.Qubits != 0 || len(c.Gates) != 0) || !listed && len(names) != 0 {
		t.Errorf("results for %s, whose code is %d: %v, %v", shown(s), code, c, names)
	}
	for _, name := range append(probeNames(), names...) {
		got, ok := impl.SubcircuitOf(s, name)
		if ok != slices.Contains(names, name) || ok && !impl.IsValidCircuit(got) || !ok && (got.Qubits != 0 || len(got.Gates) != 0) {
			t.Errorf("SubcircuitOf %s for %q: got %v, %v", shown(s), name, got, ok)
		}
	}
}

func checkFault(t *testing.T, code int, line int, lines ...string) {
	t.Helper()
	checkCode(t, joined(lines...), code, line)
}

// checkParsed checks that a text is without faults and that its circuit has the number of qubits and the text of the gates.
func checkParsed(t *testing.T, s string, qubits int, gates ...string) {
	t.Helper()
	checkCode(t, s, impl.TextOK, 0)
	got, ok := impl.ParseCircuit(s)
	checkCircuit(t, "ParseCircuit of "+shown(s), got, ok, circuitOf(qubits, gates...))
}

// checkDefined checks the circuit of a definition.
func checkDefined(t *testing.T, s string, name string, qubits int, gates ...string) {
	t.Helper()
	got, ok := impl.SubcircuitOf(s, name)
	checkCircuit(t, "SubcircuitOf "+name+" of "+shown(s), got, ok, circuitOf(qubits, gates...))
}

func checkNames(t *testing.T, s string, want ...string) {
	t.Helper()
	if got, ok := impl.DefinedNames(s); !ok || !slices.Equal(got, want) {
		t.Errorf("DefinedNames of %s: got %q, %v, want %q", shown(s), got, ok, want)
	}
}

// circuitOf returns the circuit with the gates of the given texts, read by the document's table of names.
func circuitOf(qubits int, texts ...string) impl.Circuit {
	c := circuit(qubits)
	for _, text := range texts {
		words := strings.Fields(text)
		for _, k := range gateKinds() {
			if k.name != words[0] {
				continue
			}
			g := gate(k.kind, 0, 0)
			if k.qubits >= 1 {
				g.A, _ = strconv.Atoi(words[1])
			}
			if k.qubits == 2 {
				g.B, _ = strconv.Atoi(words[2])
			}
			c.Gates = append(c.Gates, g)
		}
	}
	return c
}

func exampleText() string {
	return joined("qubits 2", "def f 1 {", "H 0", "T 0", "}", "repeat 2 {", "call f 1", "}", "CX 0 1")
}

func TestTextConstants(t *testing.T) {
	codes := []int{impl.TextOK, impl.TextForm, impl.TextLine, impl.TextBlock, impl.TextName, impl.TextGate, impl.TextSize}
	if impl.MaxText != maxText || !slices.Equal(codes, []int{0, 1, 2, 3, 4, 5, 6}) {
		t.Error("constants:", impl.MaxText, codes)
	}
}

func TestTextExamples(t *testing.T) {
	s := exampleText()
	checkParsed(t, s, 2, "H 1", "T 1", "H 1", "T 1", "CX 0 1")
	checkNames(t, s, "f")
	checkDefined(t, s, "f", 1, "H 0", "T 0")
	checkCode(t, "qubits 2\nCX 0 0\n", impl.TextGate, 2)
	plain, ok := impl.FormatCircuit(circuit(2, gate(impl.GtH, 0, 0), gate(impl.GtCX, 0, 1)))
	if plain != "qubits 2\nH 0\nCX 0 1\n" || !ok {
		t.Errorf("FormatCircuit: %q, %v", plain, ok)
	}
	folded, ok := impl.FoldCircuit(repeatedGate(1, gate(impl.GtT, 0, 0), 3))
	if folded != "qubits 1\nrepeat 3 {\nT 0\n}\n" || !ok {
		t.Errorf("FoldCircuit: %q, %v", folded, ok)
	}
	if !impl.IsSubcircuitName("f") || impl.IsSubcircuitName("F") || impl.IsSubcircuitName("") || impl.IsSubcircuitName("a1") {
		t.Error("names")
	}
}

// TestTextOfEveryGate has every gate alone and all gates together, formatted and parsed.
func TestTextOfEveryGate(t *testing.T) {
	for n := 1; n <= maxQubits; n++ {
		head := "qubits " + string(rune('0'+n))
		all := []string{head}
		for _, g := range validGates(n) {
			line, _ := impl.FormatGate(g)
			all = append(all, line)
			checkParsed(t, joined(head, line), n, line)
			text, ok := impl.FormatCircuit(circuit(n, g))
			if text != joined(head, line) || !ok {
				t.Errorf("FormatCircuit of %v: %q, %v", g, text, ok)
			}
		}
		checkParsed(t, joined(all...), n, all[1:]...)
		text, ok := impl.FormatCircuit(circuit(n, validGates(n)...))
		if text != joined(all...) || !ok {
			t.Errorf("FormatCircuit of all gates: %q, %v", text, ok)
		}
		text, ok = impl.FormatCircuit(circuit(n))
		if text != joined(head) || !ok {
			t.Errorf("FormatCircuit of no gates: %q, %v", text, ok)
		}
		checkParsed(t, joined(head), n)
		checkNames(t, joined(head))
	}
}

// TestTextsLeadBack has texts with and without repetitions that are parsed to the circuit that they came from.
func TestTextsLeadBack(t *testing.T) {
	for _, c := range append(sampleCircuits(), foldableCircuits()...) {
		plain, ok := impl.FormatCircuit(c)
		if lines := strings.Count(plain, "\n"); !ok || lines != len(c.Gates)+1 || strings.Contains(plain, "{") {
			t.Errorf("FormatCircuit of %v: %s, %v", c, shown(plain), ok)
		}
		folded, fine := impl.FoldCircuit(c)
		if !fine || strings.Contains(folded, "def") || strings.Contains(folded, "call") {
			t.Errorf("FoldCircuit of %v: %s, %v", c, shown(folded), fine)
		}
		for _, s := range []string{plain, folded} {
			checkCode(t, s, impl.TextOK, 0)
			got, ok := impl.ParseCircuit(s)
			checkCircuit(t, "parsed back", got, ok, c)
			checkNames(t, s)
			again, ok := impl.FormatCircuit(got)
			if again != plain || !ok {
				t.Errorf("formatted again: %s, %v, want %s", shown(again), ok, shown(plain))
			}
		}
	}
}

func TestTextRepetitions(t *testing.T) {
	checkParsed(t, joined("qubits 1", "repeat 2 {", "H 0", "}"), 1, "H 0", "H 0")
	checkParsed(t, joined("qubits 1", "repeat 99 {", "T' 0", "}"), 1, slices.Repeat([]string{"T' 0"}, 99)...)
	checkParsed(t, joined("qubits 1", "X 0", "repeat 3 {", "H 0", "T 0", "}", "Z 0"), 1, "X 0", "H 0", "T 0", "H 0", "T 0", "H 0", "T 0", "Z 0")
	checkParsed(t, joined("qubits 1", "repeat 2 {", "X 0", "repeat 3 {", "Y 0", "}", "Z 0", "}", "W"), 1, "X 0", "Y 0", "Y 0", "Y 0", "Z 0", "X 0", "Y 0", "Y 0", "Y 0", "Z 0", "W")
	checkParsed(t, joined("qubits 1", "repeat 2 {", "repeat 2 {", "repeat 2 {", "S 0", "}", "}", "}"), 1, slices.Repeat([]string{"S 0"}, 8)...)
	checkParsed(t, joined("qubits 1", "repeat 2 {", "repeat 2 {", "X 0", "}", "repeat 3 {", "Y 0", "}", "}"), 1, "X 0", "X 0", "Y 0", "Y 0", "Y 0", "X 0", "X 0", "Y 0", "Y 0", "Y 0")
	checkParsed(t, joined("qubits 3", "repeat 2 {", "}", "H 2", "repeat 99 {", "repeat 99 {", "}", "}"), 3, "H 2")
	checkParsed(t, joined("qubits 2", "repeat 2 {", "X 0", "}", "repeat 2 {", "X 1", "}"), 2, "X 0", "X 0", "X 1", "X 1")
}

// TestTextRepetitionCounts has every count of a repetition.
func TestTextRepetitionCounts(t *testing.T) {
	for n := 2; n <= 99; n++ {
		s := joined("qubits 2", "SWAP 1 0", "repeat "+strconv.Itoa(n)+" {", "CX 0 1", "W", "}", "T 1")
		want := append([]string{"SWAP 1 0"}, slices.Repeat([]string{"CX 0 1", "W"}, n)...)
		checkParsed(t, s, 2, append(want, "T 1")...)
	}
}

func TestTextDefinitions(t *testing.T) {
	unused := joined("qubits 1", "def f 2 {", "CZ 1 0", "}", "X 0")
	checkParsed(t, unused, 1, "X 0")
	checkDefined(t, unused, "f", 2, "CZ 1 0")

	empty := joined("qubits 4", "def a 5 {", "}", "def b 1 {", "repeat 7 {", "}", "}", "call b 3", "H 1", "call b 0")
	checkParsed(t, empty, 4, "H 1")
	checkNames(t, empty, "a", "b")
	checkDefined(t, empty, "a", 5)
	checkDefined(t, empty, "b", 1)

	order := joined("qubits 1", "def z 1 {", "}", "def a 2 {", "}", "def m 3 {", "}", "def zz 4 {", "}", "def abcdefgh 5 {", "}")
	checkNames(t, order, "z", "a", "m", "zz", "abcdefgh")
	checkParsed(t, order, 1)

	keywords := joined("qubits 1", "def qubits 1 {", "X 0", "}", "def repeat 1 {", "Y 0", "}", "def def 1 {", "call repeat 0", "}", "def call 1 {", "Z 0", "}", "call call 0", "call def 0", "call qubits 0")
	checkParsed(t, keywords, 1, "Z 0", "Y 0", "X 0")
	checkNames(t, keywords, "qubits", "repeat", "def", "call")
}

// TestTextDefinitionsWithRepetitions has repetitions inside definitions, calls inside repetitions, and both together.
func TestTextDefinitionsWithRepetitions(t *testing.T) {
	s := joined("qubits 3", "def f 2 {", "repeat 2 {", "H 0", "repeat 3 {", "CX 1 0", "}", "}", "W", "}", "repeat 2 {", "call f 2 0", "X 1", "}", "call f 1 2")
	f := func(a, b string) []string {
		turn := []string{"H " + a, "CX " + b + " " + a, "CX " + b + " " + a, "CX " + b + " " + a}
		return slices.Concat(turn, turn, []string{"W"})
	}
	checkDefined(t, s, "f", 2, f("0", "1")...)
	once := append(f("2", "0"), "X 1")
	checkParsed(t, s, 3, slices.Concat(once, once, f("1", "2"))...)
}

func TestTextDefinitionsThatCall(t *testing.T) {
	s := joined("qubits 4",
		"def a 2 {", "CX 0 1", "T 1", "}",
		"def b 3 {", "call a 2 0", "H 1", "call a 1 2", "}",
		"def c 4 {", "repeat 2 {", "call b 3 0 1", "}", "call a 0 3", "}",
		"call c 1 2 3 0", "call a 3 1")
	checkNames(t, s, "a", "b", "c")
	checkDefined(t, s, "a", 2, "CX 0 1", "T 1")
	checkDefined(t, s, "b", 3, "CX 2 0", "T 0", "H 1", "CX 1 2", "T 2")
	turn := []string{"CX 1 3", "T 3", "H 0", "CX 0 1", "T 1"}
	checkDefined(t, s, "c", 4, slices.Concat(turn, turn, []string{"CX 0 3", "T 3"})...)
	// Qubits 0, 1, 2 and 3 of c are qubits 1, 2, 3 and 0.
	turn = []string{"CX 2 0", "T 0", "H 1", "CX 1 2", "T 2"}
	checkParsed(t, s, 4, slices.Concat(turn, turn, []string{"CX 1 0", "T 0", "CX 3 1", "T 1"})...)
}

// TestTextCallsEverywhere calls a subcircuit with all gates at every list of qubits.
func TestTextCallsEverywhere(t *testing.T) {
	for k := 1; k <= maxQubits; k++ {
		body := circuit(k, validGates(k)...)
		text, _ := impl.FormatCircuit(body)
		_, lines, _ := strings.Cut(text, "\n")
		for n := k; n <= maxQubits; n++ {
			for _, to := range renamings(k, n) {
				call := "call f"
				for _, q := range to {
					call += " " + strconv.Itoa(q)
				}
				s := joined("qubits "+strconv.Itoa(n), "def f "+strconv.Itoa(k)+" {") + lines + joined("}", call)
				got, ok := impl.ParseCircuit(s)
				checkCircuit(t, call, got, ok, renamed(body, to, n))
				got, ok = impl.SubcircuitOf(s, "f")
				checkCircuit(t, "SubcircuitOf", got, ok, body)
			}
		}
	}
}

// TestSubcircuitNames has all strings of one and two bytes, and letters in every number.
func TestSubcircuitNames(t *testing.T) {
	letter := func(b int) bool { return b >= 'a' && b <= 'z' }
	for b := range 256 {
		one := string([]byte{byte(b)})
		if impl.IsSubcircuitName(one) != letter(b) {
			t.Errorf("IsSubcircuitName of %q", one)
		}
		for c := range 256 {
			two := string([]byte{byte(b), byte(c)})
			if impl.IsSubcircuitName(two) != (letter(b) && letter(c)) {
				t.Errorf("IsSubcircuitName of %q", two)
			}
		}
		for place := range 8 {
			long := []byte("abcwxyzm")
			long[place] = byte(b)
			if impl.IsSubcircuitName(string(long)) != letter(b) {
				t.Errorf("IsSubcircuitName of %q", long)
			}
		}
	}
	for _, count := range []int{0, 1, 2, 7, 8, 9, 10, 16, 256, 257, 1 << 16} {
		if got := impl.IsSubcircuitName(strings.Repeat("q", count)); got != (count >= 1 && count <= 8) {
			t.Errorf("IsSubcircuitName of %d letters: %v", count, got)
		}
	}
}

// TestSubcircuitOfOtherNames asks for names that are not defined, and for strings that are no names.
func TestSubcircuitOfOtherNames(t *testing.T) {
	s := joined("qubits 1", "def f 1 {", "H 0", "}", "def ab 1 {", "T 0", "}", "call f 0")
	for _, name := range []string{"", "a", "b", "ff", "fa", "abc", "g", "F", "f ", " f", "f 1", "f\n", "def", "def f", "call", "H", "ab\x00", "\xff", strings.Repeat("f", 9), strings.Repeat("f", 9000)} {
		got, ok := impl.SubcircuitOf(s, name)
		checkNoCircuit(t, "SubcircuitOf "+name[:min(len(name), 20)], got, ok)
		got, ok = impl.SubcircuitOf("qubits 1\n", name)
		checkNoCircuit(t, "SubcircuitOf no definitions", got, ok)
	}
	checkDefined(t, s, "ab", 1, "T 0")
	// A text with a fault has no circuits, not even those of definitions before the fault.
	for _, line := range []string{"", "}", "call g 0", "H 1"} {
		got, ok := impl.SubcircuitOf(s+line+"\n", "f")
		checkNoCircuit(t, "SubcircuitOf a text with a fault", got, ok)
	}
}

// TestFormatCircuitInvalid has circuits that are not valid for both functions that return a text.
func TestFormatCircuitInvalid(t *testing.T) {
	list := []impl.Circuit{{}, repeatedGate(1, gate(impl.GtH, 0, 0), maxGates+1), repeatedGate(5, gate(impl.GtW, 0, 0), 1<<16)}
	for _, n := range invalidQubitCounts() {
		list = append(list, circuit(n), circuit(n, gate(impl.GtH, 0, 0)))
	}
	for n := 1; n <= maxQubits; n++ {
		for k, g := range invalidGates(n) {
			c := sampleCircuit(n, 6, k)
			c.Gates[k%6] = g
			list = append(list, circuit(n, g), circuit(n, g, g), c)
		}
	}
	for _, c := range list {
		if text, ok := impl.FormatCircuit(c); text != "" || ok {
			t.Errorf("FormatCircuit of %v: %s, %v", c, shown(text), ok)
		}
		if text, ok := impl.FoldCircuit(c); text != "" || ok {
			t.Errorf("FoldCircuit of %v: %s, %v", c, shown(text), ok)
		}
	}
}
