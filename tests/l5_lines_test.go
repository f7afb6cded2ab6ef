package tests

import (
	"strconv"
	"strings"
	"testing"

	"loop.example/g00864/impl"
)

// checkBadLine puts a line that has none of the forms behind the first line, behind a definition, into blocks, and at the end.
func checkBadLine(t *testing.T, line string) {
	t.Helper()
	checkFault(t, impl.TextLine, 2, "qubits 5", line)
	checkFault(t, impl.TextLine, 2, "qubits 5", line, "H 0")
	checkFault(t, impl.TextLine, 4, "qubits 5", "def f 5 {", "}", line)
	checkFault(t, impl.TextLine, 3, "qubits 5", "def f 5 {", line, "}")
	checkFault(t, impl.TextLine, 4, "qubits 5", "X 0", "repeat 2 {", line, "}")
}

// checkBadFirstLine puts a line at the place of the first line.
func checkBadFirstLine(t *testing.T, line string) {
	t.Helper()
	checkFault(t, impl.TextLine, 1, line)
	checkFault(t, impl.TextLine, 1, line, "H 0")
	checkFault(t, impl.TextLine, 1, line, "qubits 2")
}

// notNumbers are words that are no decimal of one or two digits without leading zeros.
func notNumbers() []string {
	return []string{
		"", "00", "01", "05", "09", "007", "000", "+1", "-1", "+0", "-0", "+", "-", "1+", "1-", "100", "101", "999", "1000", "0100", "256", "257", "65537",
		"4294967297", "18446744073709551617", strings.Repeat("0", 300), strings.Repeat("9", 300), "a", "a1", "1a", "x", "0x1", "0b1", "0o1", "1_0", "1e1", "1.0", "1.", ".1", "1,",
		"1\t", "\t1", "1\r", "\v1", "1\x00", "\x001", "\x80", "\xff", "1\xff", "\u0661", "\uff11", "\u00a01", "'1'", "\"1\"", "(1)", "{", "}", "1{", "{1",
	}
}

func TestTextLastLineFeed(t *testing.T) {
	for _, s := range []string{
		"", " ", "q", "qubits 1", "qubits 1\nH 0", "qubits 1\nH 0\n ", "qubits 1\r", "qubits 1\n\r", "\nqubits 1", "x", "}", "\x00", "\xff",
		"qubits 1\nH 0\n\x00", "qubits 1\nH 0\n\n\n}", "qubits 1\nrepeat 2 {", "qubits 1\ncall f 0", "qubits 1\u2028",
	} {
		checkCode(t, s, impl.TextForm, 0)
	}
	checkCode(t, "qubits 1\n", impl.TextOK, 0)
}

func TestTextEmptyLines(t *testing.T) {
	checkBadLine(t, "")
	checkBadFirstLine(t, "")
	for _, s := range []string{"\n", "\n\n", "\n\n\n", "\nqubits 1\n", "\nqubits 1\nH 0\n", strings.Repeat("\n", maxText), strings.Repeat("\n", 5) + "H 0\n"} {
		checkCode(t, s, impl.TextLine, 1)
	}
	checkCode(t, "qubits 1\n\n", impl.TextLine, 2)
	checkCode(t, "qubits 1\nH 0\n\n", impl.TextLine, 3)
	checkCode(t, "qubits 1\nH 0\n\nX 0\n", impl.TextLine, 3)
	checkCode(t, "qubits 1\nH 0\nX 0\n\n\n", impl.TextLine, 4)
}

// goodLines are lines of every form but the first line's.
func goodLines() []string {
	return []string{"H 0", "S' 4", "T' 1", "CX 0 1", "SWAP 4 2", "W", "repeat 2 {", "repeat 99 {", "def f 1 {", "def abcdefgh 5 {", "call f 0", "call g 1 2 3", "}"}
}

// TestTextBlanks has blanks too many and too few, and other white space, at every place of every form.
func TestTextBlanks(t *testing.T) {
	spaces := []string{" ", "  ", "\t", "\r", "\v", "\f", "\x00", "\u00a0", "\u2003", "\u0085", "\ufeff"}
	for _, line := range goodLines() {
		for _, space := range spaces {
			for at := 0; at <= len(line); at++ {
				checkBadLine(t, line[:at]+space+line[at:])
			}
			if strings.Contains(line, " ") && space != " " {
				checkBadLine(t, strings.Replace(line, " ", space, 1))
				checkBadLine(t, strings.ReplaceAll(line, " ", space))
			}
		}
		if strings.Contains(line, " ") {
			checkBadLine(t, strings.Replace(line, " ", "", 1))
			checkBadLine(t, strings.ReplaceAll(line, " ", ""))
		}
	}
	for _, space := range spaces {
		for at := 0; at <= len("qubits 1"); at++ {
			checkBadFirstLine(t, "qubits 1"[:at]+space+"qubits 1"[at:])
		}
	}
}

func TestTextFirstLine(t *testing.T) {
	for _, line := range append(goodLines(), "Qubits 1", "QUBITS 1", "qubit 1", "qubitss 1", "qubits", "qubits ", "qubits1", "qubits 1 1", "qubits 1 {", "qubits a", "1", "qubits {", "qubits 1 qubits 1", "1 qubits") {
		checkBadFirstLine(t, line)
	}
	for _, word := range append(notNumbers(), "0", "6", "7", "9", "10", "11", "15", "50", "55", "99") {
		checkBadFirstLine(t, "qubits "+word)
	}
	for n := 1; n <= maxQubits; n++ {
		head := "qubits " + strconv.Itoa(n)
		checkParsed(t, joined(head), n)
		checkBadLine(t, head)
		checkFault(t, impl.TextLine, 3, head, "H 0", head)
		checkFault(t, impl.TextLine, 2, head, head, head)
	}
	for _, word := range []string{"0", "6", "10", "99", "", "x"} {
		checkBadLine(t, "qubits "+word)
	}
}

func TestTextRepeatLines(t *testing.T) {
	for n := range 100 {
		line := "repeat " + strconv.Itoa(n) + " {"
		if n < 2 {
			checkBadLine(t, line)
		} else {
			checkParsed(t, joined("qubits 1", line, "}"), 1)
		}
		checkBadFirstLine(t, line)
	}
	for _, word := range notNumbers() {
		checkBadLine(t, "repeat "+word+" {")
	}
	for _, line := range []string{"repeat", "repeat ", "repeat 2", "repeat 2 ", "repeat {", "repeat  {", "repeat 2{", "repeat2 {", "repeat 2 {{", "repeat 2 { {", "repeat 2 }", "repeat 2 {}", "repeat 2 { }", "repeat 2 3 {", "repeat 2 (", "repeat 2 [", "repeat { 2", "Repeat 2 {", "REPEAT 2 {", "repea 2 {", "repeatt 2 {", "2 repeat {", "repeat f 2 {", "repeat 2 { H 0 }", "repeat 2 x", "repeat 2 {x", "{ repeat 2"} {
		checkBadLine(t, line)
	}
}

func TestTextDefLines(t *testing.T) {
	for n := range 100 {
		line := "def f " + strconv.Itoa(n) + " {"
		if n < 1 || n > maxQubits {
			checkBadLine(t, line)
		} else {
			checkParsed(t, joined("qubits 1", line, "}"), 1)
			checkDefined(t, joined("qubits 1", line, "}"), "f", n)
		}
		checkBadFirstLine(t, line)
	}
	for _, word := range notNumbers() {
		checkBadLine(t, "def f "+word+" {")
	}
	for _, name := range notNames() {
		checkBadLine(t, "def "+name+" 1 {")
	}
	for _, line := range []string{"def", "def ", "def f", "def f 1", "def f 1 ", "def f {", "def 1 {", "def f 1{", "def f1 {", "def f 1 {{", "def f 1 { {", "def f 1 }", "def f 1 {}", "def f 1 2 {", "def f g 1 {", "def 1 f {", "def { f 1", "Def f 1 {", "DEF f 1 {", "de f 1 {", "deff 1 {", "def f 1 (", "def f 1 x", "f 1 {", "define f 1 {"} {
		checkBadLine(t, line)
	}
}

// notNames are words that are no names.
func notNames() []string {
	return []string{
		"", "F", "fF", "Ff", "A", "Z", "abcdefgH", "abcdefghi", "zzzzzzzzz", strings.Repeat("a", 16), strings.Repeat("a", 264), "a1", "1a", "1", "0", "a0b", "a_b", "a-b", "a'", "'", "{", "}", "a{", "@", "[", "`", "|", "~",
		"\x00", "a\x00", "\x80", "a\xff", "\xe1", "\u00e9", "\u0430", "\u017f", "\u212a", "\uff41", "a\t", "\ta", "a\r",
	}
}

func TestTextNamesOfEveryLength(t *testing.T) {
	for count := 1; count <= 12; count++ {
		for _, letter := range []string{"a", "z", "m"} {
			name := strings.Repeat(letter, count)
			if count > 8 {
				checkBadLine(t, "def "+name+" 1 {")
				checkBadLine(t, "call "+name+" 0")
				continue
			}
			s := joined("qubits 1", "def "+name+" 1 {", "T 0", "}", "call "+name+" 0")
			checkParsed(t, s, 1, "T 0")
			checkNames(t, s, name)
			checkDefined(t, s, name, 1, "T 0")
		}
	}
	// Every byte alone and inside a name, in a definition and in a call.
	for b := range 256 {
		for _, name := range []string{string([]byte{byte(b)}), string([]byte{'a', byte(b), 'c'})} {
			if b >= 'a' && b <= 'z' {
				checkParsed(t, joined("qubits 1", "def "+name+" 1 {", "T 0", "}", "call "+name+" 0"), 1, "T 0")
			} else if b != '\n' {
				checkBadLine(t, "def "+name+" 1 {")
				checkBadLine(t, "call "+name+" 0")
			}
		}
	}
}

func TestTextCallLines(t *testing.T) {
	for _, line := range []string{"call", "call ", "call f", "call f ", "call 0", "call 0 1", "call  0", "call f,0", "call f 0,1", "call f 0, 1", "call f (0)", "call f 0 {", "call f {", "call f f", "call f g 0", "Call f 0", "CALL f 0", "cal f 0", "callf 0", "calls f 0", "f 0", "call f 0 x", "call f x 0", "call f 0 x 1"} {
		checkBadLine(t, line)
	}
	for _, name := range notNames() {
		checkBadLine(t, "call "+name+" 0")
	}
	for _, word := range notNumbers() {
		checkBadLine(t, "call f "+word)
		checkBadLine(t, "call f "+word+" 0")
		checkBadLine(t, "call f 0 "+word)
		checkBadLine(t, "call f 0 "+word+" 1")
		checkBadLine(t, "call f 0 1 2 3 "+word)
	}
	// The form allows any numbers, and as many as fit into a text.
	for n := range 100 {
		checkFault(t, impl.TextName, 2, "qubits 1", "call f "+strconv.Itoa(n))
	}
	checkFault(t, impl.TextName, 2, "qubits 1", "call f"+strings.Repeat(" 0", 3900))
	checkFault(t, impl.TextLine, 2, "qubits 1", "call f"+strings.Repeat(" 0", 3900)+" x")
}

func TestTextEndLines(t *testing.T) {
	for _, line := range []string{"} ", " }", "}}", "} }", "} 0", "{", "{}", "{ }", "}{", "} {", "end", "};", "})", "]", ")", "} H 0", "}\r", "}\x00"} {
		checkBadLine(t, line)
		checkFault(t, impl.TextLine, 3, "qubits 1", "repeat 2 {", line)
	}
}

// TestTextGateLines has every gate with too few and too many numbers, and with words that are none.
func TestTextGateLines(t *testing.T) {
	for _, k := range gateKinds() {
		for count := range 4 {
			line := k.name
			for q := range count {
				line += " " + strconv.Itoa(q)
			}
			if count == k.qubits {
				checkParsed(t, joined("qubits 5", line), 5, line)
			} else {
				checkBadLine(t, line)
			}
			checkBadFirstLine(t, line)
			for _, word := range notNumbers() {
				checkBadLine(t, line+" "+word)
				checkBadLine(t, k.name+" "+word+line[len(k.name):])
			}
		}
		for _, name := range []string{strings.ToLower(k.name), k.name + "'", "'" + k.name, k.name + "x", k.name + "\x00", k.name + "\u2019", k.name + k.name + k.name, " " + k.name, k.name + "\"", k.name + "\u0301", k.name + "0"} {
			if name == "S'" || name == "T'" {
				continue
			}
			checkBadLine(t, name+" 0 1"[:2*k.qubits])
		}
	}
}

func TestTextOtherNamesOfGates(t *testing.T) {
	for _, name := range []string{"", "0", "1", "I", "R", "V", "C", "CY", "CH", "CS", "CT", "CNOT", "SW", "SWA", "SWAPS", "Swap", "XC", "ZC", "Sdg", "Tdg", "S''", "T''", "H'", "X'", "W'", "GtH", "HH", "1H", "\x01", "\xff", "\u210b", "\uff28", "WW", "w"} {
		for _, numbers := range []string{"", " 0", " 0 1", " 0 1 2"} {
			checkBadLine(t, name+numbers)
		}
	}
	for _, line := range []string{"H0", "H,0", "H(0)", "H 0;", "H 0 # comment", "# comment", "// comment", "0 H", "CX 0,1", "CX 0 , 1", "CX01", "CX 01", "CX0 1", "H 0 X 1", "H 0\rX 1", "W W"} {
		checkBadLine(t, line)
	}
}

// TestTextQubitsOfGates has all numbers of one and two digits as qubits; they all have the form, but few are valid.
func TestTextQubitsOfGates(t *testing.T) {
	for n := range 100 {
		for _, line := range []string{"H #", "T' #", "CX # 9", "CZ 9 #", "SWAP # 50"} {
			line = strings.ReplaceAll(line, "#", strconv.Itoa(n))
			code, at := impl.TextGate, 2
			if n < maxQubits && len(strings.Fields(line)) == 2 {
				code, at = impl.TextOK, 0
			}
			checkFault(t, code, at, "qubits 5", line)
		}
	}
}
