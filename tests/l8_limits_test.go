package tests

import (
	"math"
	"slices"
	"testing"

	"loop.example/g00864/impl"
)

// checkNotClifford calls every function that has a tableau as an argument.
func checkNotClifford(t *testing.T, of impl.Tableau) {
	t.Helper()
	c, ok := impl.SynthesizeClifford(of)
	checkNoCircuit(t, "SynthesizeClifford", c, ok)
	only, ok := impl.SignOnly(of)
	checkAnswer(t, "SignOnly", only, ok, false, false)
	p, ok := impl.PauliFrameOf(of)
	checkNoPauli(t, "PauliFrameOf", p, ok)
	c, ok = impl.LeastWord(of)
	checkNoCircuit(t, "LeastWord", c, ok)
	length, ok := impl.LeastWordLength(of)
	checkNoNumber(t, "LeastWordLength", length, ok)
	order, ok := impl.OrderOf(of)
	checkNoNumber(t, "OrderOf", order, ok)
}

func TestCliffordOfInvalidTableaux(t *testing.T) {
	for _, of := range invalidTableaux(t) {
		checkNotClifford(t, of)
	}
}

// TestCliffordOfBrokenFrames has the tableaux of Pauli operators, in which one rule is broken.
func TestCliffordOfBrokenFrames(t *testing.T) {
	for n := 1; n <= 3; n++ {
		for _, letters := range letterTexts(n) {
			for _, broken := range brokenPairs(frameTableau(letters)) {
				checkNotClifford(t, broken)
			}
		}
	}
}

// TestCliffordOfAllLetters has any images on two qubits, one of them with each phase.
func TestCliffordOfAllLetters(t *testing.T) {
	for n := 1; n <= 2; n++ {
		for k, letters := range imageLetters(n) {
			of := signed(letters, k%16)
			[]*impl.Pauli{&of.XImages[0], &of.ZImages[n-1]}[k%2].Phase = k / 16 % 4
			if !followRules(letters) || k/16%2 == 1 {
				checkNotClifford(t, of)
				continue
			}
			_, made := impl.SynthesizeClifford(of)
			_, signed := impl.SignOnly(of)
			_, found := impl.LeastWord(of)
			_, counted := impl.LeastWordLength(of)
			_, ordered := impl.OrderOf(of)
			if !made || !signed || !found || !counted || !ordered {
				t.Error("a call fails:", of, made, signed, found, counted, ordered)
			}
		}
	}
}

// checkNotNormal calls every function that has a circuit as an argument.
func checkNotNormal(t *testing.T, c impl.Circuit) {
	t.Helper()
	got, ok := impl.NormalizeClifford(c)
	checkNoCircuit(t, "NormalizeClifford", got, ok)
	checkNotCompared(t, c, c)
	for _, n := range []int{1, 2, 5, min(max(c.Qubits, 1), maxQubits)} {
		checkNotCompared(t, c, circuit(n))
		checkNotCompared(t, c, circuit(n, gate(impl.GtH, n-1, 0)))
	}
}

func TestCliffordOfInvalidCircuits(t *testing.T) {
	checkNotNormal(t, impl.Circuit{})
	for _, n := range invalidQubitCounts() {
		checkNotNormal(t, circuit(n))
		checkNotNormal(t, circuit(n, gate(impl.GtH, 0, 0)))
	}
	for n := 1; n <= maxQubits; n++ {
		for k, g := range invalidGates(n) {
			checkNotNormal(t, circuit(n, g))
			c := withoutT(sampleCircuit(n, 12, k))
			checkNotNormal(t, circuit(n, slices.Insert(c.Gates, []int{0, 2, len(c.Gates)}[k%3], g)...))
		}
		for _, g := range validGates(n) {
			checkNotNormal(t, repeatedGate(n, g, maxGates+1))
		}
	}
}

func TestCliffordOfCircuitsWithT(t *testing.T) {
	for n := 1; n <= maxQubits; n++ {
		for _, kind := range []int{impl.GtT, impl.GtTdg} {
			for q := range n {
				for count := 1; count <= 8; count++ {
					checkNotNormal(t, repeatedGate(n, gate(kind, q, 0), count))
				}
				c := withoutT(sampleCircuit(n, 12, n))
				for place := range len(c.Gates) + 1 {
					checkNotNormal(t, circuit(n, slices.Insert(slices.Clone(c.Gates), place, gate(kind, q, 0))...))
				}
			}
			long := repeatedGate(n, gate(impl.GtX, 0, 0), maxGates)
			long.Gates[maxGates-1] = gate(kind, n-1, 0)
			checkNotNormal(t, long)
		}
	}
}

// TestCliffordOfMaxGates has circuits that have as many gates as they may have.
func TestCliffordOfMaxGates(t *testing.T) {
	for n := 1; n <= maxQubits; n++ {
		for _, g := range withoutT(circuit(n, validGates(n)...)).Gates {
			got, ok := impl.NormalizeClifford(repeatedGate(n, g, maxGates))
			checkCircuit(t, "NormalizeClifford", got, ok, circuit(n))
			checkSame(t, repeatedGate(n, g, maxGates), circuit(n), true)
		}
	}
}

// TestCliffordOfAnyInts has all tableaux on one qubit, and circuits of one gate, made of the least and greatest integers.
func TestCliffordOfAnyInts(t *testing.T) {
	wild := []int{math.MinInt, math.MinInt + 1, -4, -1, 0, 1, 2, 3, 5, 6, 31, 32, 64, math.MaxInt - 1, math.MaxInt}
	for _, n := range wild {
		for _, phase := range wild {
			for _, x := range wild {
				for _, z := range wild {
					p := impl.Pauli{Phase: phase, X: x, Z: z}
					of := impl.Tableau{Qubits: n, XImages: []impl.Pauli{p}, ZImages: []impl.Pauli{{X: z, Z: x}}}
					checkCliffordAgreement(t, of)
					of.XImages, of.ZImages = of.ZImages, of.XImages
					checkCliffordAgreement(t, of)
					checkNormalAgreement(t, circuit(n, gate(phase, x, z)))
				}
			}
		}
		checkCliffordAgreement(t, impl.Tableau{Qubits: n})
	}
}

func checkCliffordAgreement(t *testing.T, of impl.Tableau) {
	t.Helper()
	valid := impl.IsValidTableau(of)
	if !valid {
		checkNotClifford(t, of)
		return
	}
	checkSynthesis(t, of)
	checkFrame(t, of)
	checkOrderOf(t, of)
	word, found := impl.LeastWord(of)
	length, counted := impl.LeastWordLength(of)
	if !found || !counted || length != len(word.Gates) {
		t.Error("the functions disagree on words:", of, word, found, length, counted)
	}
}

func checkNormalAgreement(t *testing.T, c impl.Circuit) {
	t.Helper()
	of, ok := impl.TableauOf(c)
	if !ok {
		checkNotNormal(t, c)
		return
	}
	got, fine := impl.NormalizeClifford(c)
	checkCircuit(t, "NormalizeClifford", got, fine, plainSynthesis(of))
	checkSame(t, c, c, true)
}
