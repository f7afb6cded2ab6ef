package tests

import (
	"slices"
	"strconv"
	"strings"
	"testing"

	"loop.example/g00864/impl"
)

// letters returns the circuit on five qubits with one gate for each letter a to z and A to Z.
func letters(word string) impl.Circuit {
	list := validGates(maxQubits)
	c := circuit(maxQubits)
	for _, b := range []byte(word) {
		c.Gates = append(c.Gates, list[int(b-'A')])
	}
	return c
}

// foldedText returns the text of pieces that are each a word of letters, or a count, a blank and a word.
func foldedText(pieces ...string) string {
	s := "qubits 5\n"
	for _, piece := range pieces {
		count, word, repeated := strings.Cut(piece, " ")
		if !repeated {
			word = count
		}
		text, _ := impl.FormatCircuit(letters(word))
		lines := strings.TrimPrefix(text, "qubits 5\n")
		if repeated {
			lines = "repeat " + count + " {\n" + lines + "}\n"
		}
		s += lines
	}
	return s
}

func checkFolded(t *testing.T, word string, pieces ...string) {
	t.Helper()
	if got, ok := impl.FoldCircuit(letters(word)); got != foldedText(pieces...) || !ok {
		t.Errorf("FoldCircuit of %q: got %q, %v, want %q", word, got, ok, foldedText(pieces...))
	}
}

func TestFoldCircuitWithoutRepetitions(t *testing.T) {
	checkFolded(t, "")
	for _, word := range []string{"a", "ab", "aba", "abc", "abcba", "abcabd", "abcdefghij", "abacabadab", "abcdefghiabcdefghi", "abcdefghijabcdefghij"} {
		checkFolded(t, word, word)
	}
	for n := 1; n <= maxQubits; n++ {
		if s, ok := impl.FoldCircuit(circuit(n)); s != "qubits "+strconv.Itoa(n)+"\n" || !ok {
			t.Errorf("FoldCircuit of no gates: %q, %v", s, ok)
		}
	}
}

func TestFoldCircuitOneGate(t *testing.T) {
	for _, g := range validGates(maxQubits) {
		line, _ := impl.FormatGate(g)
		for count := 2; count <= 99; count++ {
			want := "qubits 5\nrepeat " + strconv.Itoa(count) + " {\n" + line + "\n}\n"
			if s, ok := impl.FoldCircuit(repeatedGate(maxQubits, g, count)); s != want || !ok {
				t.Errorf("FoldCircuit of %d gates %v: %q, %v", count, g, s, ok)
			}
		}
	}
}

// TestFoldCircuitLongRuns has runs of one gate beyond the greatest count, where longer repetitions are better.
func TestFoldCircuitLongRuns(t *testing.T) {
	for count, pieces := range map[int][]string{
		98: {"98 a"}, 99: {"99 a"}, 100: {"50 aa"}, 101: {"50 aa", "a"}, 102: {"51 aa"}, 103: {"51 aa", "a"}, 104: {"52 aa"},
		196: {"98 aa"}, 197: {"98 aa", "a"}, 198: {"99 aa"}, 199: {"99 aa", "a"}, 200: {"50 aaaa"}, 201: {"67 aaa"}, 297: {"99 aaa"}, 298: {"99 aaa", "a"}, 299: {"99 aaa", "2 a"}, 300: {"75 aaaa"},
		395: {"79 aaaaa"}, 396: {"99 aaaa"}, 397: {"99 aaaa", "a"}, 398: {"99 aaaa", "2 a"}, 399: {"57 aaaaaaa"}, 400: {"80 aaaaa"},
	} {
		checkFolded(t, strings.Repeat("a", count), pieces...)
		if count < 399 {
			checkFolded(t, strings.Repeat("a", count)+"b", append(pieces, "b")...)
			checkFolded(t, "b"+strings.Repeat("a", count), append([]string{"b"}, pieces...)...)
		}
	}
	checkFolded(t, strings.Repeat("ab", 99), "99 ab")
	checkFolded(t, strings.Repeat("ab", 100), "50 abab")
	checkFolded(t, strings.Repeat("ab", 101), "50 abab", "ab")
	checkFolded(t, strings.Repeat("abc", 99), "99 abc")
	checkFolded(t, strings.Repeat("abc", 100), "50 abcabc")
	checkFolded(t, strings.Repeat("abcd", 99), "99 abcd")
	checkFolded(t, strings.Repeat("abcd", 100), "50 abcdabcd")
	checkFolded(t, strings.Repeat("abcde", 80), "80 abcde")
}

// TestFoldCircuitLengths has repetitions of all lengths up to 8, and of 9 and more, which are not folded.
func TestFoldCircuitLengths(t *testing.T) {
	for length := 1; length <= 16; length++ {
		word := "abcdefghijklmnop"[:length]
		for count := 2; count*length <= 99; count++ {
			all := strings.Repeat(word, count)
			if length > 8 {
				checkFolded(t, all, all)
				checkFolded(t, all+"z", all+"z")
				continue
			}
			piece := strconv.Itoa(count) + " " + word
			checkFolded(t, all, piece)
			checkFolded(t, "z"+all+"z", "z", piece, "z")
			checkFolded(t, all+word[:length-1]+"z", piece, word[:length-1]+"z")
			checkFolded(t, all+"z"+all, piece, "z", piece)
		}
	}
	// Nine gates are not folded, but parts of them are.
	checkFolded(t, "abcdefgaaabcdefgaa", "abcdefg", "3 a", "bcdefg", "2 a")
}

// TestFoldCircuitChoices has repetitions that overlap: the greatest product at the front decides, and then the least length.
func TestFoldCircuitChoices(t *testing.T) {
	checkFolded(t, "aa", "2 a")
	checkFolded(t, "aaaa", "4 a")
	checkFolded(t, "aaaaaa", "6 a")
	checkFolded(t, "abab", "2 ab")
	checkFolded(t, "ababa", "2 ab", "a")
	checkFolded(t, "abababab", "4 ab")
	checkFolded(t, "aabaab", "2 aab")
	checkFolded(t, "aabaabaa", "2 aab", "2 a")
	checkFolded(t, "aabb", "2 a", "2 b")
	checkFolded(t, "aaab", "3 a", "b")
	checkFolded(t, "aabab", "2 a", "bab")
	checkFolded(t, "aababab", "2 a", "2 ba", "b")
	checkFolded(t, "aaabaab", "3 a", "b", "2 a", "b")
	checkFolded(t, "aaabaabaab", "3 a", "2 baa", "b")
	checkFolded(t, "aaaabaaab", "4 a", "b", "3 a", "b")
	checkFolded(t, "aabaabaabab", "3 aab", "ab")
	checkFolded(t, "abaaba", "2 aba")
	checkFolded(t, "abaabaab", "2 aba", "ab")
	checkFolded(t, "abcabcabab", "2 abc", "2 ab")
	checkFolded(t, "ababcababc", "2 ababc")
	checkFolded(t, "aaaaabaaaaab", "2 aaaaab")
	checkFolded(t, "aaaaaaabaaaaaaab", "2 aaaaaaab")
	checkFolded(t, "aaaaaaaabaaaaaaaab", "8 a", "b", "8 a", "b")
	checkFolded(t, "aabbaabb", "2 aabb")
	checkFolded(t, "abbabb", "2 abb")
	checkFolded(t, "abbabba", "2 abb", "a")
	checkFolded(t, "abbbabba", "a", "3 b", "a", "2 b", "a")
	// The first of two repetitions is taken although the second one is longer.
	checkFolded(t, "abababcabcabcabc", "3 ab", "3 cab", "c")
	checkFolded(t, "aabcabcabcabc", "2 a", "3 bca", "bc")
	checkFolded(t, "ababacbacbacb", "2 ab", "3 acb")
}

// TestFoldCircuitNearGates has gates that differ in one field only and are not repetitions.
func TestFoldCircuitNearGates(t *testing.T) {
	base := gate(impl.GtCX, 1, 2)
	for _, other := range []impl.Gate{gate(impl.GtCZ, 1, 2), gate(impl.GtCX, 0, 2), gate(impl.GtCX, 1, 3), gate(impl.GtCX, 2, 1), gate(impl.GtSwap, 1, 2)} {
		c := circuit(4, base, other)
		plain, _ := impl.FormatCircuit(c)
		if s, ok := impl.FoldCircuit(c); s != plain || !ok {
			t.Errorf("FoldCircuit of %v: %q, %v", c, s, ok)
		}
		c = circuit(4, base, other, base, base, other, other)
		lines := strings.SplitAfter(plain, "\n")
		want := lines[0] + lines[1] + lines[2] + "repeat 2 {\n" + lines[1] + "}\n" + "repeat 2 {\n" + lines[2] + "}\n"
		if s, ok := impl.FoldCircuit(c); s != want || !ok {
			t.Errorf("FoldCircuit of %v: %q, %v", c, s, ok)
		}
	}
}

// referenceFold tries all lengths and all counts.
func referenceFold(c impl.Circuit) string {
	plain, _ := impl.FormatCircuit(c)
	lines := strings.SplitAfter(plain, "\n")
	text, lines := lines[0], lines[1:len(lines)-1]
	for len(lines) > 0 {
		bestLength, bestCount := 0, 0
		for length := 1; length <= 8; length++ {
			for count := 2; count <= 99 && length*count <= len(lines); count++ {
				if !slices.Equal(slices.Repeat(lines[:length], count), lines[:length*count]) {
					break
				}
				if length*count > bestLength*bestCount {
					bestLength, bestCount = length, count
				}
			}
		}
		if bestCount == 0 {
			text, lines = text+lines[0], lines[1:]
			continue
		}
		text += "repeat " + strconv.Itoa(bestCount) + " {\n" + strings.Join(lines[:bestLength], "") + "}\n"
		lines = lines[bestLength*bestCount:]
	}
	return text
}

// foldableCircuits have many repetitions, also repetitions inside repetitions.
func foldableCircuits() []impl.Circuit {
	list := []impl.Circuit{squareFreePairs()}
	for count := 90; count <= maxGates; count += 13 {
		list = append(list, repeatedGate(3, gate(impl.GtCX, 2, 0), count))
	}
	d := dice(7)
	for k := range 300 {
		word := ""
		for range 1 + d.below(12) {
			piece := ""
			for range 1 + d.below(9) {
				piece += d.pick("a", "b", "c", "d"[:k%2])
			}
			word += strings.Repeat(piece, 1+d.below(6))
		}
		list = append(list, letters(word[:min(len(word), maxGates)]))
	}
	return list
}

func TestFoldCircuitReference(t *testing.T) {
	list := append(sampleCircuits(), foldableCircuits()...)
	for length := range 11 {
		for code := range 1 << length {
			word := make([]byte, length)
			for k := range word {
				word[k] = "ab"[code>>k&1]
			}
			list = append(list, letters(string(word)))
		}
	}
	for _, c := range list {
		if s, ok := impl.FoldCircuit(c); s != referenceFold(c) || !ok {
			t.Errorf("FoldCircuit of %v: %s, %v, want %s", c, shown(s), ok, shown(referenceFold(c)))
		}
	}
}

// squareFreePairs has MaxGates gates in pairs of equal ones, and no other repetitions, since the word of its pairs has none.
func squareFreePairs() impl.Circuit {
	word := "a"
	for len(word) < maxGates/2 {
		word = strings.NewReplacer("a", "abc", "b", "ac", "c", "b").Replace(word)
	}
	c := circuit(5)
	for _, b := range []byte(word[:maxGates/2]) {
		g := gate(impl.GtSwap, int(b-'a'), 4)
		c.Gates = append(c.Gates, g, g)
	}
	return c
}

// TestFoldCircuitLongestText has the text with the most bytes for each gate: a pair of swaps needs 22. All texts are within MaxText.
func TestFoldCircuitLongestText(t *testing.T) {
	s, ok := impl.FoldCircuit(squareFreePairs())
	if !ok || strings.Count(s, "repeat 2 {\nSWAP ") != maxGates/2 || len(s) != 9+22*maxGates/2 {
		t.Errorf("FoldCircuit of pairs of swaps: %d bytes, %v", len(s), ok)
	}
	for _, c := range append(sampleCircuits(), foldableCircuits()...) {
		if s, ok := impl.FoldCircuit(c); !ok || len(s) > 9+11*len(c.Gates) || len(s) > maxText {
			t.Errorf("FoldCircuit of %v: %d bytes, %v", c, len(s), ok)
		}
	}
}
