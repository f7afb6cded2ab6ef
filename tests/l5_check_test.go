package tests

import (
	"slices"
	"strconv"
	"strings"
	"testing"

	"loop.example/g00864/impl"
)

// fault is a piece of a text on two qubits, behind a definition g on two qubits, with one fault.
type fault struct {
	code  int
	place int // the index of its line with the fault
	lines []string
}

// tooLong are lines that have more than MaxGates gates.
func tooLong() []string {
	return []string{"repeat 99 {", "X 0", "Y 0", "Z 0", "H 0", "W", "}"}
}

func faults() []fault {
	return []fault{
		{impl.TextLine, 0, []string{"nonsense"}},
		{impl.TextLine, 0, []string{""}},
		{impl.TextLine, 0, []string{"qubits 2"}},
		{impl.TextLine, 0, []string{"repeat 1 {"}},
		{impl.TextLine, 1, []string{"H 0", "H 0 0"}},
		{impl.TextBlock, 0, []string{"}"}},
		{impl.TextBlock, 2, []string{"repeat 2 {", "}", "}"}},
		{impl.TextBlock, 1, []string{"W", "def h 1 {", "}"}},
		{impl.TextBlock, 1, []string{"repeat 2 {", "def h 1 {", "}", "}"}},
		{impl.TextName, 0, []string{"call nope 0"}},
		{impl.TextName, 1, []string{"repeat 2 {", "call nope 0", "}"}},
		{impl.TextGate, 0, []string{"H 2"}},
		{impl.TextGate, 0, []string{"CX 1 1"}},
		{impl.TextGate, 0, []string{"call g 0"}},
		{impl.TextGate, 2, []string{"repeat 2 {", "CZ 0 1", "call g 1 1", "}"}},
		{impl.TextSize, -1, tooLong()},
	}
}

// lineOf returns the line of a fault whose first line has the given index in the text.
func (f fault) lineOf(index int) int {
	if f.code == impl.TextSize {
		return 0
	}
	return index + f.place + 1
}

func head() []string { return []string{"qubits 2", "def g 2 {", "SWAP 0 1", "}"} }

func TestCheckTextOneFault(t *testing.T) {
	for _, f := range faults() {
		lines := append(head(), f.lines...)
		checkFault(t, f.code, f.lineOf(4), lines...)
		lines = slices.Concat(head(), []string{"H 0", "call g 0 1"}, f.lines, []string{"H 1"})
		checkFault(t, f.code, f.lineOf(6), lines...)
	}
}

// TestCheckTextTwoFaults has faults of any two codes in both orders: the earlier check decides, and for one code the first line.
func TestCheckTextTwoFaults(t *testing.T) {
	for _, first := range faults() {
		for _, second := range faults() {
			lines := slices.Concat(head(), first.lines, []string{"T 0"}, second.lines, []string{"T 1"})
			code, line := first.code, first.lineOf(4)
			if second.code < code {
				code, line = second.code, second.lineOf(5+len(first.lines))
			}
			checkFault(t, code, line, lines...)
			// Without the last line feed the form of the text is wrong before anything else.
			s := joined(lines...)
			checkCode(t, s[:len(s)-1], impl.TextForm, 0)
			checkCode(t, s+strings.Repeat("H 0\n", maxText/4), impl.TextForm, 0)
		}
	}
}

// TestCheckTextTwoFaultsInBlocks has the faults behind a block that is not closed, and inside it.
func TestCheckTextTwoFaultsInBlocks(t *testing.T) {
	for _, f := range faults() {
		open := []string{"repeat 3 {", "S 0"}
		code, line := impl.TextBlock, 7+len(f.lines)
		if f.code <= impl.TextBlock {
			code, line = f.code, f.lineOf(5)
		}
		// The lines are head, T 0, the fault, T 1, and a block without an end.
		checkFault(t, code, line, slices.Concat(head(), []string{"T 0"}, f.lines, []string{"T 1"}, open)...)
		// These faults have ends that would close the block.
		if f.code == impl.TextBlock {
			continue
		}
		code, line = impl.TextBlock, 5
		if f.code < impl.TextBlock {
			code, line = f.code, f.lineOf(6)
		}
		checkFault(t, code, line, slices.Concat(head(), open, f.lines)...)
	}
}

// TestCheckTextInDefinitions has the faults inside of a definition on two qubits.
func TestCheckTextInDefinitions(t *testing.T) {
	for _, f := range faults() {
		// An end too many would close the definition.
		if f.code == impl.TextBlock && f.lines[f.place] == "}" {
			continue
		}
		lines := slices.Concat(head(), []string{"def k 2 {"}, f.lines, []string{"}", "call k 1 0"})
		checkFault(t, f.code, f.lineOf(5), lines...)
	}
}

func TestCheckTextEnds(t *testing.T) {
	checkFault(t, impl.TextBlock, 2, "qubits 1", "}")
	checkFault(t, impl.TextBlock, 2, "qubits 1", "}", "}")
	checkFault(t, impl.TextBlock, 3, "qubits 1", "H 0", "}", "H 0")
	checkFault(t, impl.TextBlock, 4, "qubits 1", "repeat 2 {", "}", "}")
	checkFault(t, impl.TextBlock, 4, "qubits 1", "def f 1 {", "}", "}")
	checkFault(t, impl.TextBlock, 6, "qubits 1", "def f 1 {", "repeat 2 {", "}", "}", "}")
	checkFault(t, impl.TextBlock, 7, "qubits 1", "repeat 2 {", "repeat 2 {", "}", "H 0", "}", "}", "repeat 2 {")
	checkFault(t, impl.TextBlock, 2, "qubits 1", "}", "repeat 2 {")
	checkFault(t, impl.TextBlock, 2, "qubits 1", "}", "def f 1 {", "}")
}

func TestCheckTextDefinitionPlaces(t *testing.T) {
	def := []string{"def f 1 {", "}"}
	for _, before := range [][]string{{"H 0"}, {"W"}, {"repeat 2 {", "}"}, {"repeat 2 {", "H 0", "}"}, {"repeat 2 {", "repeat 2 {", "}", "}"}, {"def a 1 {", "}", "H 0"}, {"def a 1 {", "}", "call a 0"}, {"def a 1 {", "}", "repeat 9 {", "}"}, {"repeat 2 {"}, {"repeat 2 {", "H 0"}, {"def a 1 {"}, {"def a 1 {", "H 0"}, {"def a 1 {", "repeat 2 {", "}"}, {"def a 1 {", "repeat 2 {"}, {"def a 1 {", "}", "def b 1 {", "}", "repeat 2 {"}} {
		lines := slices.Concat([]string{"qubits 1"}, before, def)
		checkFault(t, impl.TextBlock, 2+len(before), lines...)
		checkFault(t, impl.TextBlock, 2+len(before), append(lines, "}")...)
		checkFault(t, impl.TextBlock, 2+len(before), append(lines, "}", "}")...)
	}
	for _, before := range [][]string{{}, {"def a 1 {", "}"}, {"def a 1 {", "H 0", "}"}, {"def a 1 {", "repeat 2 {", "}", "}"}, {"def a 1 {", "repeat 2 {", "W", "}", "W", "}"}, {"def a 1 {", "}", "def b 5 {", "CX 4 3", "}"}} {
		lines := slices.Concat([]string{"qubits 1"}, before, def)
		checkParsed(t, joined(lines...), 1)
		checkDefined(t, joined(lines...), "f", 1)
	}
}

func TestCheckTextBlocksNotClosed(t *testing.T) {
	checkFault(t, impl.TextBlock, 2, "qubits 1", "repeat 2 {")
	checkFault(t, impl.TextBlock, 2, "qubits 1", "repeat 2 {", "H 0", "H 0")
	checkFault(t, impl.TextBlock, 2, "qubits 1", "def f 1 {")
	checkFault(t, impl.TextBlock, 2, "qubits 1", "def f 1 {", "H 0")
	checkFault(t, impl.TextBlock, 3, "qubits 1", "repeat 2 {", "repeat 2 {")
	checkFault(t, impl.TextBlock, 2, "qubits 1", "repeat 2 {", "repeat 2 {", "}")
	checkFault(t, impl.TextBlock, 5, "qubits 1", "repeat 2 {", "repeat 2 {", "}", "repeat 3 {", "H 0")
	checkFault(t, impl.TextBlock, 4, "qubits 1", "def f 1 {", "H 0", "repeat 2 {", "X 0")
	checkFault(t, impl.TextBlock, 2, "qubits 1", "def f 1 {", "H 0", "repeat 2 {", "X 0", "}")
	checkFault(t, impl.TextBlock, 4, "qubits 1", "def f 1 {", "}", "repeat 2 {", "X 0")
	// A line out of place decides before a block that is not closed.
	checkFault(t, impl.TextBlock, 3, "qubits 1", "def f 1 {", "def g 1 {", "}")
	checkFault(t, impl.TextBlock, 3, "qubits 1", "repeat 2 {", "def g 1 {", "H 0")
	checkFault(t, impl.TextBlock, 4, "qubits 1", "repeat 2 {", "H 0", "def g 1 {", "}", "repeat 2 {")
}

func TestCheckTextNames(t *testing.T) {
	checkFault(t, impl.TextName, 4, "qubits 1", "def f 1 {", "}", "def f 1 {", "}")
	checkFault(t, impl.TextName, 6, "qubits 1", "def f 1 {", "}", "def g 1 {", "}", "def f 2 {", "}")
	checkFault(t, impl.TextName, 4, "qubits 1", "def f 1 {", "}", "def f 1 {", "call nope 0", "}")
	checkFault(t, impl.TextName, 4, "qubits 1", "def f 1 {", "}", "def f 1 {", "call f 0", "}", "call f 0")
	checkFault(t, impl.TextName, 2, "qubits 1", "call f 0")
	checkFault(t, impl.TextName, 3, "qubits 1", "repeat 2 {", "call f 0", "}")
	checkFault(t, impl.TextName, 5, "qubits 1", "def f 1 {", "}", "call f 0", "call g 0")
	checkFault(t, impl.TextName, 4, "qubits 1", "def f 1 {", "}", "call ff 0")
	checkFault(t, impl.TextName, 4, "qubits 1", "def ff 1 {", "}", "call f 0")
	// A definition does not call itself or a later one.
	checkFault(t, impl.TextName, 3, "qubits 1", "def f 1 {", "call f 0", "}")
	checkFault(t, impl.TextName, 3, "qubits 1", "def f 1 {", "call f 0", "}", "call f 0")
	checkFault(t, impl.TextName, 4, "qubits 1", "def f 1 {", "repeat 2 {", "call f 0", "}", "}")
	checkFault(t, impl.TextName, 3, "qubits 1", "def f 1 {", "call g 0", "}", "def g 1 {", "}")
	checkFault(t, impl.TextName, 5, "qubits 1", "def a 1 {", "}", "def f 1 {", "call f 0", "call a 0", "}")
	checkFault(t, impl.TextName, 5, "qubits 1", "def f 1 {", "H 0", "repeat 2 {", "call g 0", "}", "}", "def g 1 {", "call f 0", "}")
	// The first line decides.
	checkFault(t, impl.TextName, 3, "qubits 1", "def f 1 {", "call x 0", "}", "def f 1 {", "}", "call y 0")
	checkFault(t, impl.TextName, 4, "qubits 1", "def f 1 {", "}", "def f 1 {", "}", "call y 0")
	checkFault(t, impl.TextName, 4, "qubits 1", "H 0", "X 0", "call y 0", "call x 0")
	checkParsed(t, joined("qubits 1", "def f 1 {", "}", "def g 1 {", "call f 0", "}", "def h 1 {", "call g 0", "call f 0", "}", "call f 0", "call h 0"), 1)
}

// TestCheckTextManyNames has as many definitions as fit, the last of which is called or defined again.
func TestCheckTextManyNames(t *testing.T) {
	lines := []string{"qubits 1"}
	var names []string
	for k := range 600 {
		name := string([]byte{'a' + byte(k/26), 'a' + byte(k%26)})
		names = append(names, name)
		lines = append(lines, "def "+name+" 1 {", "}")
	}
	checkParsed(t, joined(append(lines, "call aa 0", "call xb 0")...), 1)
	checkNames(t, joined(lines...), names...)
	checkFault(t, impl.TextName, 1202, append(lines, "call xc 0")...)
	checkFault(t, impl.TextName, 1202, append(lines, "def xb 1 {", "}")...)
	checkFault(t, impl.TextName, 1202, append(lines, "def aa 1 {", "}")...)
}

// TestCheckTextGates has every gate on qubits inside and just outside of a text and of a definition.
func TestCheckTextGates(t *testing.T) {
	for n := 1; n <= maxQubits; n++ {
		for _, k := range gateKinds() {
			for a := range maxQubits + 2 {
				for b := range maxQubits + 2 {
					checkGateInside(t, n, k, a, b)
				}
			}
		}
	}
}

func checkGateInside(t *testing.T, n int, k gateKind, a int, b int) {
	t.Helper()
	line := k.name + (" " + strconv.Itoa(a) + " " + strconv.Itoa(b))[:2*k.qubits]
	valid := k.qubits == 0 || a < n && (k.qubits == 1 || b < n && a != b)
	// The other number of qubits must not matter.
	other := strconv.Itoa(maxQubits + 1 - n)
	whole := []string{"qubits " + strconv.Itoa(n), "def f " + other + " {", "}", "W", line, "W"}
	inside := []string{"qubits " + other, "def f " + strconv.Itoa(n) + " {", "W", "repeat 2 {", line, "}", "}"}
	if !valid {
		checkFault(t, impl.TextGate, 5, whole...)
		checkFault(t, impl.TextGate, 5, inside...)
		return
	}
	checkParsed(t, joined(whole...), n, "W", line, "W")
	checkDefined(t, joined(inside...), "f", n, "W", line, line)
}

// TestCheckTextCalls calls subcircuits of every size from texts and definitions of every size.
func TestCheckTextCalls(t *testing.T) {
	for n := 1; n <= maxQubits; n++ {
		for k := 1; k <= maxQubits; k++ {
			for count := 1; count <= maxQubits+1; count++ {
				checkCallOf(t, n, k, []int{0, 1, 2, 3, 4, 5}[:count])
				checkCallOf(t, n, k, []int{5, 4, 3, 2, 1, 0}[6-count:])
				checkCallOf(t, n, k, []int{1, 2, 3, 4, 5, 6}[:count])
				checkCallOf(t, n, k, []int{0, 0, 1, 2, 3, 4}[:count])
				checkCallOf(t, n, k, []int{0, 1, 2, 3, 2, 4}[:count])
				checkCallOf(t, n, k, []int{99, 0, 1, 2, 3, 4}[:count])
			}
		}
	}
}

func checkCallOf(t *testing.T, n int, k int, qubits []int) {
	t.Helper()
	call := "call f"
	valid := len(qubits) == k
	for i, q := range qubits {
		call += " " + strconv.Itoa(q)
		valid = valid && q < n && !slices.Contains(qubits[:i], q)
	}
	def := []string{"def f " + strconv.Itoa(k) + " {", "W", "}"}
	whole := slices.Concat([]string{"qubits " + strconv.Itoa(n)}, def, []string{call})
	other := strconv.Itoa(maxQubits + 1 - n)
	inside := slices.Concat([]string{"qubits " + other}, def, []string{"def g " + strconv.Itoa(n) + " {", call, "}"})
	if !valid {
		checkFault(t, impl.TextGate, 5, whole...)
		checkFault(t, impl.TextGate, 6, inside...)
		return
	}
	checkParsed(t, joined(whole...), n, "W")
	checkDefined(t, joined(inside...), "g", n, "W")
	checkParsed(t, joined(inside...), maxQubits+1-n)
}

// TestCheckTextGateLines has two lines with faults of this code: the first one decides.
func TestCheckTextGateLines(t *testing.T) {
	checkFault(t, impl.TextGate, 3, "qubits 1", "def f 1 {", "H 1", "}", "H 1")
	checkFault(t, impl.TextGate, 5, "qubits 1", "def f 1 {", "H 0", "}", "H 1", "call f 1")
	checkFault(t, impl.TextGate, 5, "qubits 1", "def f 1 {", "H 0", "}", "call f 1", "H 1")
	checkFault(t, impl.TextGate, 6, "qubits 1", "def f 1 {", "}", "def g 1 {", "call f 0", "call f 1", "}", "H 1")
	checkFault(t, impl.TextGate, 4, "qubits 1", "def f 2 {", "}", "call f 0")
	checkFault(t, impl.TextGate, 4, "qubits 1", "def f 2 {", "}", "call f 0 1")
	// A definition may have more qubits than the text; other definitions can call it.
	s := joined("qubits 1", "def f 2 {", "CX 1 0", "}", "def g 3 {", "call f 2 0", "}", "H 0")
	checkParsed(t, s, 1, "H 0")
	checkDefined(t, s, "g", 3, "CX 0 2")
}
