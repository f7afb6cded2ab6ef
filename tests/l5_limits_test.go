package tests

import (
	"slices"
	"strconv"
	"strings"
	"testing"

	"loop.example/g00864/impl"
)

// padded returns a text without gates that has the given number of bytes, at least 200.
func padded(size int) string {
	s := "qubits 1\n"
	for (size-len(s))%len("repeat 2 {\n}\n") != 0 {
		s += "repeat 10 {\n}\n"
	}
	return s + strings.Repeat("repeat 2 {\n}\n", (size-len(s))/len("repeat 2 {\n}\n"))
}

func TestTextOfMaxText(t *testing.T) {
	for size := maxText - 30; size <= maxText+30; size++ {
		s := padded(size)
		if len(s) != size {
			t.Fatal("wrong size:", len(s))
		}
		if size > maxText {
			checkCode(t, s, impl.TextForm, 0)
		} else {
			checkParsed(t, s, 1)
		}
		checkCode(t, s[:size-1], impl.TextForm, 0)
		checkCode(t, s[:size-1]+"}", impl.TextForm, 0)
	}
	// The text is measured before anything else is looked at.
	for _, size := range []int{maxText + 1, 2 * maxText, 1 << 16, 1 << 20} {
		for _, piece := range []string{"\n", "W\n", "x\n", "}\n", "repeat 2 {\n", "\x00\n", "\xff\xfe\n"} {
			s := strings.Repeat(piece, size/len(piece)+1)
			checkCode(t, s, impl.TextForm, 0)
			checkCode(t, "qubits 1\n"+s, impl.TextForm, 0)
		}
	}
	checkCode(t, strings.Repeat("x", maxText-1)+"\n", impl.TextLine, 1)
	checkCode(t, strings.Repeat("x", maxText)+"\n", impl.TextForm, 0)
	checkCode(t, strings.Repeat("x", maxText), impl.TextForm, 0)
	checkCode(t, "qubits 1\nH "+strings.Repeat("0", maxText-12)+"\n", impl.TextLine, 2)
}

// gateCount checks that a text has the given number of GtW gates, or the code TextSize if there are too many.
func gateCount(t *testing.T, count int, lines ...string) {
	t.Helper()
	if count > maxGates {
		checkFault(t, impl.TextSize, 0, lines...)
		return
	}
	s := joined(lines...)
	checkCode(t, s, impl.TextOK, 0)
	got, ok := impl.ParseCircuit(s)
	if !ok || got.Qubits != 1 || len(got.Gates) != count || gatesOf(got, impl.GtW) != count {
		t.Errorf("ParseCircuit of %s: got %d gates, %v, want %d", shown(s), len(got.Gates), ok, count)
	}
}

// repeatLines are the lines of repetitions, one inside the other, of the lines inside.
func repeatLines(counts []int, inside ...string) []string {
	var lines []string
	for _, n := range counts {
		lines = append(lines, "repeat "+strconv.Itoa(n)+" {")
	}
	return slices.Concat(lines, inside, slices.Repeat([]string{"}"}, len(counts)))
}

// textLines are the lines of a text on one qubit.
func textLines(pieces ...[]string) []string {
	return slices.Concat([]string{"qubits 1"}, slices.Concat(pieces...))
}

// defLines are the lines of a definition on one qubit.
func defLines(name string, inside ...string) []string {
	return slices.Concat([]string{"def " + name + " 1 {"}, inside, []string{"}"})
}

func ws(count int) []string { return slices.Repeat([]string{"W"}, count) }

func TestTextOfMaxGates(t *testing.T) {
	for _, count := range []int{0, 1, 198, 199, 200, 201, 202, 397, 398, 399, 400, 401, 402, 799, 800, 801, 1200, 3900} {
		gateCount(t, count, textLines(ws(count))...)
		gateCount(t, 2*count, textLines(repeatLines([]int{2}, ws(count)...))...)
		gateCount(t, count, textLines(ws(count/2), repeatLines([]int{99, 99}), ws(count-count/2))...)
		if count <= 1200 {
			gateCount(t, 3*count, textLines(ws(count), repeatLines([]int{2}, ws(count)...))...)
			gateCount(t, count, textLines(defLines("f", ws(count)...), []string{"call f 0"})...)
			gateCount(t, count+1, textLines(defLines("f", ws(count)...), []string{"W", "call f 0"})...)
			gateCount(t, count+1, textLines(defLines("f", ws(count)...), []string{"call f 0", "W"})...)
			gateCount(t, 2*count, textLines(defLines("f", ws(count)...), []string{"call f 0", "call f 0"})...)
			gateCount(t, 2*count, textLines(defLines("f", ws(count)...), repeatLines([]int{2}, "call f 0"))...)
		}
	}
}

// TestTextOfMaxGatesInDefinitions has definitions with too many gates that are called or not.
func TestTextOfMaxGatesInDefinitions(t *testing.T) {
	for _, count := range []int{398, 399, 400, 401, 402, 700} {
		for _, rest := range [][]string{{}, defLines("g"), defLines("g", "W")} {
			lines := textLines(defLines("f", ws(count)...), rest)
			if count > maxGates {
				checkFault(t, impl.TextSize, 0, lines...)
			} else {
				checkParsed(t, joined(lines...), 1)
				checkDefined(t, joined(lines...), "f", 1, ws(count)...)
			}
		}
		lines := textLines(defLines("e"), defLines("f", ws(count-1)...), defLines("g", "W", "call f 0"))
		if count > maxGates {
			checkFault(t, impl.TextSize, 0, lines...)
		} else {
			checkDefined(t, joined(lines...), "g", 1, ws(count)...)
		}
		lines = textLines(defLines("f", ws(count)...), defLines("g", repeatLines([]int{2}, "call f 0")...))
		checkFault(t, impl.TextSize, 0, lines...)
	}
}

// TestTextLimitsOfTheCircuit has texts with more than MaxGates lines of gates whose circuits are short enough.
func TestTextLimitsOfTheCircuit(t *testing.T) {
	parts := textLines(defLines("f", ws(maxGates)...), defLines("g", ws(maxGates)...), defLines("h", ws(maxGates-1)...))
	gateCount(t, maxGates, slices.Concat(parts, ws(maxGates))...)
	gateCount(t, maxGates, append(parts, "call g 0")...)
	gateCount(t, maxGates, append(parts, "W", "call h 0")...)
	gateCount(t, maxGates+1, append(parts, "W", "call g 0")...)
	gateCount(t, 0, parts...)
}

func TestTextRepeatedProducts(t *testing.T) {
	for i := 2; i <= 99; i++ {
		gateCount(t, i, textLines(repeatLines([]int{i}, "W"))...)
		for j := 2; j <= 99; j++ {
			if i*j > maxGates+120 && (i+j)%9 != 0 {
				continue
			}
			gateCount(t, i*j, textLines(repeatLines([]int{i, j}, "W"))...)
			if i%7 == 0 && j < 20 {
				gateCount(t, i*j*2, textLines(repeatLines([]int{i, j}, "W", "W"))...)
				gateCount(t, i*(j+1)+1, textLines(repeatLines([]int{i}, append(repeatLines([]int{j}, "W"), "W")...), ws(1))...)
			}
		}
	}
}

// TestTextNestedRepetitions has products of counts that no integer holds, among them those that are 0 modulo 2^64.
func TestTextNestedRepetitions(t *testing.T) {
	for _, n := range []int{2, 3, 4, 8, 10, 16, 32, 64, 99} {
		product := 1
		for depth := 1; depth <= 560; depth++ {
			product = min(product*n, maxGates+1)
			if depth > 12 && depth%16 != 0 && depth%21 != 0 && depth%31 > 1 || depth > 70 && depth%139 != 0 && depth != 560 {
				continue
			}
			counts := slices.Repeat([]int{n}, depth)
			gateCount(t, product, textLines(repeatLines(counts, "W"))...)
			gateCount(t, 0, textLines(repeatLines(counts))...)
			gateCount(t, 3, textLines(ws(1), repeatLines(counts), ws(2))...)
			if depth > 500 {
				continue
			}
			gateCount(t, product, textLines(defLines("f", repeatLines(counts, "W")...), []string{"call f 0"})...)
			gateCount(t, product, textLines(defLines("f", "W"), repeatLines(counts, "call f 0"))...)
			gateCount(t, 0, textLines(defLines("f"), repeatLines(counts, "call f 0"))...)
			gateCount(t, 0, textLines(defLines("f", repeatLines(counts)...), repeatLines([]int{99, 99, 99}, "call f 0", "call f 0"))...)
		}
	}
}

// TestTextRepetitionsOfNothingBesideGates has empty repetitions at every depth of repetitions with one gate each.
func TestTextRepetitionsOfNothingBesideGates(t *testing.T) {
	nothing := repeatLines([]int{99, 99, 99, 99, 99, 99, 99, 99, 99, 99, 99})
	inside := nothing
	count := 0
	for range 8 {
		inside = repeatLines([]int{2}, slices.Concat([]string{"W"}, inside, nothing)...)
		count = 2 * (count + 1)
		gateCount(t, count, textLines(inside)...)
	}
}

// TestTextCallsThatGrow has definitions that call the one before twice, or more often than any integer counts.
func TestTextCallsThatGrow(t *testing.T) {
	for _, start := range []string{"W", "repeat 2 {\n}"} {
		for _, depth := range []int{0, 1, 2, 7, 8, 9, 10, 31, 32, 33, 62, 63, 64, 65, 119} {
			lines := []string{"qubits 1", "def aa 1 {", start, "}"}
			name, count := "aa", strings.Count(start, "W")
			for k := range depth {
				next := string([]byte{'a' + byte((k+1)/26), 'a' + byte((k+1)%26)})
				lines = append(lines, "def "+next+" 1 {", "call "+name+" 0", "call "+name+" 0", "}")
				name, count = next, min(2*count, maxGates+1)
			}
			gateCount(t, count, append(lines, "call "+name+" 0")...)
			if count == 0 {
				gateCount(t, count, append(lines, "repeat 99 {", "call "+name+" 0", "}")...)
			}
		}
	}
}

// TestFormatCircuitOfMaxGates has the longest texts without blocks.
func TestFormatCircuitOfMaxGates(t *testing.T) {
	for _, g := range validGates(maxQubits) {
		line, _ := impl.FormatGate(g)
		want := "qubits 5\n" + strings.Repeat(line+"\n", maxGates)
		c := repeatedGate(maxQubits, g, maxGates)
		s, ok := impl.FormatCircuit(c)
		if s != want || !ok {
			t.Errorf("FormatCircuit of %d gates %v: %s, %v", maxGates, g, shown(s), ok)
		}
		checkCode(t, s, impl.TextOK, 0)
		got, ok := impl.ParseCircuit(s)
		checkCircuit(t, "parsed back", got, ok, c)
		s, ok = impl.FormatCircuit(repeatedGate(maxQubits, g, maxGates+1))
		if s != "" || ok {
			t.Errorf("FormatCircuit of too many gates: %s, %v", shown(s), ok)
		}
		checkCode(t, want+line+"\n", impl.TextSize, 0)
	}
}
