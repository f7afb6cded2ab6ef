package tests

import (
	"math/big"
	"regexp"
	"slices"
	"strconv"
	"strings"
	"testing"

	"loop.example/g00864/impl"
)

const numberForm = `(0|[1-9][0-9]?)`

// lineForms are the forms of lines behind the first one.
func lineForms() *regexp.Regexp {
	return regexp.MustCompile(strings.Join([]string{
		`^(H|X|Y|Z|S|S'|T|T') ` + numberForm + `$`, `^(CX|CZ|SWAP) ` + numberForm + ` ` + numberForm + `$`, `^W$`,
		`^repeat ([2-9]|[1-9][0-9]) {$`, `^def [a-z]{1,8} [1-5] {$`, `^call [a-z]{1,8}( ` + numberForm + `)+$`, `^}$`,
	}, "|"))
}

// textModel reads a text by the document's rules in the plainest way: every check goes over all lines, and the gates are counted without a limit.
type textModel struct {
	head     *regexp.Regexp
	forms    *regexp.Regexp
	lines    []string
	names    []string
	circuits map[string]impl.Circuit
	sizes    map[string]*big.Int
	main     impl.Circuit
}

func newTextModel() *textModel {
	return &textModel{head: regexp.MustCompile(`^qubits [1-5]$`), forms: lineForms()}
}

// read returns the code and the line of a text, and keeps its circuits.
func (m *textModel) read(s string) (int, int) {
	m.names, m.circuits, m.sizes, m.main = nil, map[string]impl.Circuit{}, map[string]*big.Int{}, impl.Circuit{}
	if s == "" || len(s) > maxText || s[len(s)-1] != '\n' {
		return impl.TextForm, 0
	}
	m.lines = strings.Split(s[:len(s)-1], "\n")
	for i, line := range m.lines {
		if i == 0 && !m.head.MatchString(line) || i > 0 && !m.forms.MatchString(line) {
			return impl.TextLine, i + 1
		}
	}
	if i, ok := m.misplaced(); ok {
		return impl.TextBlock, i + 1
	}
	for i := range m.lines {
		if m.misnamed(i) {
			return impl.TextName, i + 1
		}
	}
	for i := range m.lines {
		if m.misapplied(i) {
			return impl.TextGate, i + 1
		}
	}
	return m.execute(), 0
}

func (m *textModel) words(i int) []string { return strings.Split(m.lines[i], " ") }

func (m *textModel) opens(i int) bool { return strings.HasSuffix(m.lines[i], "{") }

func (m *textModel) defines(i int) bool { return m.words(i)[0] == "def" }

// enclosing returns the lines that open the blocks around line i, from the outermost one.
func (m *textModel) enclosing(i int) []int {
	var open []int
	for k := range i {
		if m.opens(k) {
			open = append(open, k)
		} else if m.lines[k] == "}" && len(open) > 0 {
			open = open[:len(open)-1]
		}
	}
	return open
}

func (m *textModel) misplaced() (int, bool) {
	for i := range m.lines {
		open := m.enclosing(i)
		if m.lines[i] == "}" && len(open) == 0 {
			return i, true
		}
		if !m.defines(i) {
			continue
		}
		// The line before must be the first one or end a definition.
		if len(open) > 0 || i > 1 && m.lines[i-1] != "}" || i > 1 && !m.defines(m.enclosing(i - 1)[0]) {
			return i, true
		}
	}
	if open := m.enclosing(len(m.lines)); len(open) > 0 {
		return open[len(open)-1], true
	}
	return 0, false
}

// definition returns the line that opens the definition around line i (or is line i), or 0, the first line, if there is none.
func (m *textModel) definition(i int) int {
	for _, k := range append(m.enclosing(i), i) {
		if m.defines(k) {
			return k
		}
	}
	return 0
}

// definedBefore returns the line that defines a name before line i, or 0.
func (m *textModel) definedBefore(name string, i int) int {
	for k := range i {
		if m.defines(k) && m.words(k)[1] == name {
			return k
		}
	}
	return 0
}

func (m *textModel) misnamed(i int) bool {
	words := m.words(i)
	switch words[0] {
	case "def":
		return m.definedBefore(words[1], i) != 0
	case "call":
		before := i
		if d := m.definition(i); d != 0 {
			before = d
		}
		return m.definedBefore(words[1], before) == 0
	}
	return false
}

// width returns the number of qubits of the text or of the definition that line i opens.
func (m *textModel) width(i int) int {
	for _, word := range m.words(i) {
		if n, err := strconv.Atoi(word); err == nil {
			return n
		}
	}
	return 0
}

func (m *textModel) misapplied(i int) bool {
	words := m.words(i)
	used := words[1:]
	switch words[0] {
	case "qubits", "repeat", "def", "}":
		return false
	case "call":
		used = words[2:]
		if len(used) != m.width(m.definedBefore(words[1], i)) {
			return true
		}
	}
	for k, word := range used {
		if q, _ := strconv.Atoi(word); q >= m.width(m.definition(i)) || slices.Contains(used[:k], word) {
			return true
		}
	}
	return false
}

// execute counts the gates of all parts and, if none has too many, lists them.
func (m *textModel) execute() int {
	for i := 1; i < len(m.lines); i++ {
		if !m.defines(i) {
			continue
		}
		name := m.words(i)[1]
		size, _ := m.count(i + 1)
		if size.Cmp(big.NewInt(maxGates)) > 0 {
			return impl.TextSize
		}
		gates, _ := m.list(i + 1)
		m.names = append(m.names, name)
		m.sizes[name] = size
		m.circuits[name] = circuit(m.width(i), gates...)
	}
	size, _ := m.count(1)
	if size.Cmp(big.NewInt(maxGates)) > 0 {
		return impl.TextSize
	}
	gates, _ := m.list(1)
	m.main = circuit(m.width(0), gates...)
	return impl.TextOK
}

// count returns the number of gates of the block whose lines begin at line i, and the line behind it.
func (m *textModel) count(i int) (*big.Int, int) {
	sum := new(big.Int)
	for i < len(m.lines) && m.lines[i] != "}" {
		words := m.words(i)
		switch words[0] {
		case "def", "repeat":
			inner, next := m.count(i + 1)
			if words[0] == "repeat" {
				sum.Add(sum, inner.Mul(inner, big.NewInt(int64(m.width(i)))))
			}
			i = next
			continue
		case "call":
			sum.Add(sum, m.sizes[words[1]])
		default:
			sum.Add(sum, big.NewInt(1))
		}
		i++
	}
	return sum, i + 1
}

// list returns the gates of the block whose lines begin at line i, and the line behind it.
func (m *textModel) list(i int) ([]impl.Gate, int) {
	var gates []impl.Gate
	for i < len(m.lines) && m.lines[i] != "}" {
		words := m.words(i)
		switch words[0] {
		case "def":
			_, i = m.count(i + 1)
			continue
		case "repeat":
			inner, next := m.list(i + 1)
			gates = append(gates, slices.Repeat(inner, m.width(i))...)
			i = next
			continue
		case "call":
			var to []int
			for _, word := range words[2:] {
				q, _ := strconv.Atoi(word)
				to = append(to, q)
			}
			gates = append(gates, renamed(m.circuits[words[1]], to, maxQubits).Gates...)
		default:
			gates = append(gates, circuitOf(maxQubits, m.lines[i]).Gates...)
		}
		i++
	}
	return gates, i + 1
}

// compareText holds all functions of texts against the model and returns the code.
func compareText(t *testing.T, m *textModel, s string) int {
	t.Helper()
	code, line := m.read(s)
	checkCode(t, s, code, line)
	if code != impl.TextOK {
		return code
	}
	got, ok := impl.ParseCircuit(s)
	checkCircuit(t, "ParseCircuit of "+shown(s), got, ok, m.main)
	checkNames(t, s, m.names...)
	for _, name := range m.names {
		got, ok := impl.SubcircuitOf(s, name)
		checkCircuit(t, "SubcircuitOf "+name+" of "+shown(s), got, ok, m.circuits[name])
	}
	return code
}

// dice returns numbers in no particular order, the same ones in every run.
type dice int

func (d *dice) below(n int) int {
	*d = (*d*1103515245 + 12345) % (1 << 31)
	return int(*d>>8) % n
}

func (d *dice) pick(list ...string) string { return list[d.below(len(list))] }

// qubits returns the text of different qubits, mostly below n.
func (d *dice) qubits(n int, count int) string {
	first := d.below(n + d.below(80)/79)
	text := " " + strconv.Itoa(first)
	if count == 2 {
		text += " " + strconv.Itoa((first+1+d.below(max(n-1, 1)))%max(n, 2))
	}
	return text
}

// widthOf returns the number of qubits of the definition of a name in the texts that are generated.
func widthOf(name string) int { return min(len(name), 2) }

// gateLine returns the line of a gate or a call, mostly one that is valid for n qubits.
func (d *dice) gateLine(n int, names []string) string {
	switch d.below(6) {
	case 0, 1:
		return d.pick("H", "X", "Y", "Z", "S", "S'", "T", "T'") + d.qubits(n, 1)
	case 2:
		if n > 1 {
			return d.pick("CX", "CZ", "SWAP") + d.qubits(n, 2)
		}
	case 3, 4:
		var fitting []string
		for _, name := range names {
			if widthOf(name) <= n || d.below(40) == 0 {
				fitting = append(fitting, name)
			}
		}
		if d.below(40) == 0 {
			fitting = append(fitting, "nope")
		}
		if len(fitting) > 0 {
			name := d.pick(fitting...)
			return "call " + name + d.qubits(n, widthOf(name))
		}
	}
	return "W"
}

// block returns the lines of a block.
func (d *dice) block(n int, names []string, depth int) []string {
	var lines []string
	for range d.below(5) {
		if d.below(3) > 0 || depth == 0 {
			lines = append(lines, d.gateLine(n, names))
			continue
		}
		lines = append(lines, "repeat "+d.pick("2", "3", "5", "10", "99")+" {")
		lines = append(append(lines, d.block(n, names, depth-1)...), "}")
	}
	return lines
}

// text returns the lines of a text whose blocks are well placed.
func (d *dice) text() []string {
	n := 1 + d.below(maxQubits)
	lines := []string{"qubits " + strconv.Itoa(n)}
	var names []string
	for range d.below(4) {
		name := d.pick("a", "b", "c", "d", "e", "ab", "bc", "ca", "aa", "call")
		lines = append(lines, "def "+name+" "+strconv.Itoa(widthOf(name))+" {")
		lines = append(append(lines, d.block(widthOf(name), names, 2)...), "}")
		names = append(names, name)
	}
	return append(lines, d.block(n, names, 3)...)
}

// spoil changes the lines of a text in one way.
func (d *dice) spoil(lines []string) []string {
	i, k := d.below(len(lines)), d.below(len(lines))
	lines = slices.Clone(lines)
	switch d.below(6) {
	case 0:
		return slices.Delete(lines, i, i+1)
	case 1:
		lines[i], lines[k] = lines[k], lines[i]
		return lines
	case 2:
		return slices.Insert(lines, i, lines[k])
	case 3:
		return slices.Insert(lines, i, d.pick("}", "repeat 5 {", "def d 2 {", "call d 0", "H 4", "CX 1 1", "qubits 2", "", "H"))
	case 4:
		return append(lines, d.pick("}", "repeat 3 {", "def b 1 {", "call a 0 1", "CZ 0 0"))
	}
	if line := lines[i]; line != "" {
		at := d.below(len(line))
		lines[i] = line[:at] + d.pick("", " ", "0", "1", "9", "{", "x", "\t") + line[at+1:]
	}
	return lines
}

// TestTextReference holds texts of many kinds against the model.
func TestTextReference(t *testing.T) {
	m, d := newTextModel(), dice(1)
	var seen [impl.TextSize + 1]int
	for range 12000 {
		lines := d.text()
		for range max(d.below(5)-1, 0) {
			if len(lines) > 0 {
				lines = d.spoil(lines)
			}
		}
		seen[compareText(t, m, joined(lines...))]++
		if t.Failed() {
			return
		}
	}
	t.Log("texts of each code:", seen)
	for code, count := range seen {
		if count < 300 && code != impl.TextForm {
			t.Error("texts with the code", code, "are rare:", count)
		}
	}
}

// TestTextReferenceChangedBytes replaces, inserts and removes every byte of a text.
func TestTextReferenceChangedBytes(t *testing.T) {
	m := newTextModel()
	for _, s := range []string{exampleText(), joined("qubits 3", "def ab 2 {", "CX 0 1", "S' 1", "}", "repeat 10 {", "call ab 2 0", "W", "}")} {
		for i := range len(s) {
			compareText(t, m, s[:i])
			compareText(t, m, s[i:])
			compareText(t, m, s[:i]+s[i+1:])
			for b := range 256 {
				one := string([]byte{byte(b)})
				compareText(t, m, s[:i]+one+s[i+1:])
				compareText(t, m, s[:i]+one+s[i:])
			}
			if t.Failed() {
				return
			}
		}
	}
}
