package tests

import (
	"maps"
	"slices"
	"testing"

	"loop.example/g00864/impl"
)

const maxWord = 12

// wordLetters holds the gates of words on n qubits in their order; a letter is the place of its gate.
func wordLetters(n int) []impl.Gate {
	if n == 1 {
		return gatesText(1, "H 0,S 0").Gates
	}
	return gatesText(2, "H 0,S 0,H 1,S 1,CX 0 1,CX 1 0").Gates
}

// wordCircuit has the gates of the letters of a word.
func wordCircuit(n int, word string) impl.Circuit {
	c := circuit(n)
	for _, letter := range word {
		c.Gates = append(c.Gates, wordLetters(n)[letter-'0'])
	}
	return c
}

// wordTable holds the images that words lead to, and the least one of the shortest words to each of them.
type wordTable struct {
	images map[string]plainTableau
	words  map[string]string
}

// leastWords goes from each length to the next one. The letters are tried backwards, so that only the comparison of words decides.
func leastWords(n int) wordTable {
	start := plainGenerators(n)
	table := wordTable{map[string]plainTableau{start.key(): start}, map[string]string{start.key(): ""}}
	for layer := []string{start.key()}; len(layer) > 0; {
		longer := map[string]string{}
		for _, key := range layer {
			for letter := len(wordLetters(n)) - 1; letter >= 0; letter-- {
				after := table.images[key].behind(wordLetters(n)[letter])
				word := table.words[key] + string(rune('0'+letter))
				if _, known := table.words[after.key()]; known {
					continue
				}
				if least, met := longer[after.key()]; !met || word < least {
					longer[after.key()] = word
					table.images[after.key()] = after
				}
			}
		}
		layer = nil
		for key, word := range longer {
			table.words[key] = word
			layer = append(layer, key)
		}
	}
	return table
}

// checkWord checks both functions for the tableau with a key.
func checkWord(t *testing.T, n int, table wordTable, key string) {
	t.Helper()
	of, word := table.images[key].tableau(), table.words[key]
	got, ok := impl.LeastWord(of)
	checkCircuit(t, "LeastWord of "+key, got, ok, wordCircuit(n, word))
	if len(word) > maxWord {
		t.Error("the word is too long:", word)
	}
	if back := plainRun(got); back.key() != key {
		t.Errorf("the word of %s leads to %s", key, back.key())
	}
}

func TestLeastWordOfEveryTableauOfOneQubit(t *testing.T) {
	table, longest := leastWords(1), 0
	if len(table.words) != 24 {
		t.Error("number of tableaux:", len(table.words))
	}
	for key, word := range table.words {
		checkWord(t, 1, table, key)
		length, ok := impl.LeastWordLength(table.images[key].tableau())
		checkNumber(t, "LeastWordLength", length, ok, len(word))
		longest = max(longest, len(word))
	}
	if longest != 6 {
		t.Error("length of the longest word:", longest)
	}
}

// TestLeastWordOfEveryTableauOfTwoQubits shares the tableaux among parts that run side by side.
func TestLeastWordOfEveryTableauOfTwoQubits(t *testing.T) {
	table, parts, longest := leastWords(2), make([][]string, 8), 0
	if len(table.words) != 11520 {
		t.Error("number of tableaux:", len(table.words))
	}
	for k, key := range slices.Sorted(maps.Keys(table.words)) {
		parts[k%len(parts)] = append(parts[k%len(parts)], key)
		longest = max(longest, len(table.words[key]))
	}
	if longest != 11 {
		t.Error("length of the longest word:", longest)
	}
	for _, keys := range parts {
		t.Run("part", func(t *testing.T) {
			t.Parallel()
			for _, key := range keys {
				checkWord(t, 2, table, key)
			}
		})
	}
}

// TestLeastWordLength has at least one tableau of each length.
func TestLeastWordLength(t *testing.T) {
	table, counts := leastWords(2), map[int]int{}
	for _, key := range slices.Sorted(maps.Keys(table.words)) {
		word := table.words[key]
		if counts[len(word)] == 40 {
			continue
		}
		counts[len(word)]++
		length, ok := impl.LeastWordLength(table.images[key].tableau())
		checkNumber(t, "LeastWordLength of "+key, length, ok, len(word))
	}
	for length := range maxWord {
		if counts[length] == 0 {
			t.Error("no tableau has a word of the length", length)
		}
	}
}

// TestLeastWordAmongAllWords runs through all short words by length and in lexicographic order; the first one with a tableau is its word.
func TestLeastWordAmongAllWords(t *testing.T) {
	for n := 1; n <= 2; n++ {
		seen, words := map[string]bool{}, []string{""}
		for length := 0; length <= []int{0, 8, 5}[n]; length++ {
			var longer []string
			for _, word := range words {
				images := plainRun(wordCircuit(n, word))
				if !seen[images.key()] {
					seen[images.key()] = true
					got, ok := impl.LeastWord(images.tableau())
					checkCircuit(t, "LeastWord", got, ok, wordCircuit(n, word))
				}
				for letter := range wordLetters(n) {
					longer = append(longer, word+string(rune('0'+letter)))
				}
			}
			words = longer
		}
		if n == 1 && len(seen) != 24 {
			t.Error("number of tableaux:", len(seen))
		}
	}
}

func TestLeastWordInFull(t *testing.T) {
	cases := []struct {
		n           int
		gates, want string
	}{
		{1, "", ""}, {1, "W", ""}, {1, "H 0", "H 0"}, {1, "S 0", "S 0"}, {1, "Z 0", "S 0,S 0"}, {1, "S' 0", "S 0,S 0,S 0"}, {1, "X 0", "H 0,S 0,S 0,H 0"},
		{1, "S 0,S 0,S 0,H 0", "H 0,S 0,H 0,S 0"}, {1, "H 0,S 0,H 0", "H 0,S 0,H 0"},
		{2, "", ""}, {2, "H 0", "H 0"}, {2, "S 0", "S 0"}, {2, "H 1", "H 1"}, {2, "S 1", "S 1"}, {2, "CX 0 1", "CX 0 1"}, {2, "CX 1 0", "CX 1 0"},
		{2, "H 1,H 0", "H 0,H 1"}, {2, "S 1,H 1,S 0", "S 0,S 1,H 1"}, {2, "CX 1 0,CX 0 1,CX 1 0", "CX 0 1,CX 1 0,CX 0 1"}, {2, "SWAP 0 1", "CX 0 1,CX 1 0,CX 0 1"},
		{2, "CZ 0 1", "H 0,CX 1 0,H 0"}, {2, "X 1", "H 1,S 1,S 1,H 1"}, {2, "CX 0 1,S 0", "S 0,CX 0 1"}, {2, "CX 0 1,S 1", "CX 0 1,S 1"},
	}
	for _, c := range cases {
		of := tableauText(c.n, c.gates)
		got, ok := impl.LeastWord(of)
		checkCircuit(t, "LeastWord of "+c.gates, got, ok, gatesText(c.n, c.want))
		length, ok := impl.LeastWordLength(of)
		checkNumber(t, "LeastWordLength of "+c.gates, length, ok, len(gatesText(c.n, c.want).Gates))
	}
}

// TestLeastWordOfMoreQubits has tableaux for which there are short words, too.
func TestLeastWordOfMoreQubits(t *testing.T) {
	for n := 3; n <= maxQubits; n++ {
		for _, of := range append(manyTableaux(n)[:60], generators(n)) {
			got, ok := impl.LeastWord(of)
			checkNoCircuit(t, "LeastWord", got, ok)
			length, ok := impl.LeastWordLength(of)
			checkNoNumber(t, "LeastWordLength", length, ok)
		}
	}
}

func TestWordConstant(t *testing.T) {
	if impl.MaxWord != maxWord {
		t.Error("MaxWord is", impl.MaxWord)
	}
}
