package tests

import (
	"slices"
	"testing"

	"loop.example/g00864/impl"
)

// cliffordWords is the canonical list.
func cliffordWords() []string {
	return []string{
		"", "H", "S", "HS", "SH", "SS", "HSH", "HSS", "SHS", "SSH", "SSS", "HSHS", "HSSH", "HSSS", "SHSS", "SSHS",
		"HSHSS", "HSSHS", "SHSSH", "SHSSS", "SSHSS", "HSHSSH", "HSHSSS", "HSSHSS",
	}
}

// plainBloch multiplies the matrices of H and S, the first letter's as the last factor.
func plainBloch(word string) [3][3]int {
	factors := map[rune][3][3]int{'H': {{0, 0, 1}, {0, -1, 0}, {1, 0, 0}}, 'S': {{0, -1, 0}, {1, 0, 0}, {0, 0, 1}}}
	m := [3][3]int{{1, 0, 0}, {0, 1, 0}, {0, 0, 1}}
	for _, letter := range word {
		var product [3][3]int
		for i := range 3 {
			for j := range 3 {
				for k := range 3 {
					product[i][j] += factors[letter][i][k] * m[k][j]
				}
			}
		}
		m = product
	}
	return m
}

// plainList tries all words by length and in lexicographic order, also those whose beginnings are not in the list.
func plainList() []string {
	var list []string
	seen := map[[3][3]int]bool{}
	for _, word := range allWords("HS", 9) {
		if m := plainBloch(word); !seen[m] {
			seen[m] = true
			list = append(list, word)
		}
	}
	return list
}

// allRotations are the matrices with one cell 1 or -1 in each row and column and the determinant 1.
func allRotations() []impl.Bloch {
	var list []impl.Bloch
	for _, places := range [][3]int{{0, 1, 2}, {1, 2, 0}, {2, 0, 1}, {0, 2, 1}, {1, 0, 2}, {2, 1, 0}} {
		for signs := range 8 {
			b, product := bloch(repeated(whole(0), 9)...), 1
			for row, col := range places {
				sign := 1 - signs>>row&1*2
				b.Cells[3*row+col], product = whole(sign), product*sign
			}
			even := places[1] == (places[0]+1)%3
			if even == (product == 1) {
				list = append(list, b)
			}
		}
	}
	return list
}

func TestCliffordWords(t *testing.T) {
	if list := plainList(); !slices.Equal(list, cliffordWords()) {
		t.Error("the plain list is", list)
	}
	for k, want := range plainList() {
		got, ok := impl.CliffordWord(k)
		checkText(t, "CliffordWord", got, ok, want, true)
	}
	for _, k := range outsideOf(24) {
		got, ok := impl.CliffordWord(k)
		checkText(t, "CliffordWord outside", got, ok, "", false)
	}
	for k := -100; k <= 100; k++ {
		if _, ok := impl.CliffordWord(k); ok != (k >= 0 && k < 24) {
			t.Error("CliffordWord of", k, "is", ok)
		}
	}
}

func TestCliffordIndexOfWords(t *testing.T) {
	for k, word := range cliffordWords() {
		m := letterOperator(t, word)
		for phase := range 8 {
			b, exists := impl.BlochOf(turned(m, phase))
			index, ok := impl.CliffordIndex(b)
			if !exists {
				t.Error("no Bloch matrix:", word)
			}
			checkNumber(t, "CliffordIndex of "+word, index, ok, k)
		}
		var cells []int
		for _, row := range plainBloch(word) {
			cells = append(cells, row[:]...)
		}
		index, ok := impl.CliffordIndex(wholeBloch(cells...))
		checkNumber(t, "CliffordIndex of the plain matrix of "+word, index, ok, k)
	}
}

// TestCliffordIndexOfAllRotations has each matrix without a denominator.
func TestCliffordIndexOfAllRotations(t *testing.T) {
	seen, list := map[int]bool{}, allRotations()
	for _, b := range list {
		index, ok := impl.CliffordIndex(b)
		if !ok || index < 0 || index > 23 || seen[index] {
			t.Error("CliffordIndex of", b, "is", index, ok)
			continue
		}
		seen[index] = true
		checkBloch(t, "the matrix of the word", letterBloch(t, cliffordWords()[index]), true, b)
		for k := range b.Cells {
			b.Cells[k].Num.A *= -1
		}
		checkNotBloch(t, b)
	}
	if len(list) != 24 || len(seen) != 24 {
		t.Error("the numbers of matrices and indices are", len(list), len(seen))
	}
}

// TestCliffordIndexOfCircuits compares the operators of the words.
func TestCliffordIndexOfCircuits(t *testing.T) {
	cases := map[string]string{"": "", "X": "HSSH", "Y": "HSSHSS", "Z": "SS", "s": "SSS", "W": "", "HX": "SSH", "XZ": "HSSHSS", "TT": "S", "tt": "SSS", "HTTH": "HSH"}
	for word, want := range cases {
		index, ok := impl.CliffordIndex(letterBloch(t, word))
		got, fine := impl.CliffordWord(index)
		checkText(t, "the word of "+word, got, ok && fine, want, true)
	}
	for seed := range 100 {
		c := withoutT(sampleCircuit(1, 3+seed, seed))
		b, exists := impl.BlochOf(mustMatrix(t)(impl.OperatorOf(c)))
		index, ok := impl.CliffordIndex(b)
		word, fine := impl.CliffordWord(index)
		same, sure := impl.SameOperator(c, letterCircuit(word))
		checkAnswer(t, "SameOperator", same, exists && ok && fine && sure, true, true)
	}
}

func TestCliffordIndexFails(t *testing.T) {
	for count := 1; count < 32; count++ {
		for seed := range 4 {
			index, ok := impl.CliffordIndex(operatorBloch(t, normalWord(count, seed)))
			checkNoNumber(t, "CliffordIndex", index, ok)
		}
	}
	for _, text := range []string{"h -h 0  h h 0  0 0 1", "0 0 1  -h -h 0  h -h 0", "q q h  -q -q h  h -h 0", "1 0 0  0 h h  0 -h h"} {
		index, ok := impl.CliffordIndex(blochText(text))
		checkNoNumber(t, "CliffordIndex", index, ok)
	}
}
