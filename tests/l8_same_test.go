package tests

import (
	"slices"
	"strings"
	"testing"

	"loop.example/g00864/impl"
)

// checkSame has both orders of two circuits.
func checkSame(t *testing.T, a impl.Circuit, b impl.Circuit, want bool) {
	t.Helper()
	same, ok := impl.SameClifford(a, b)
	checkAnswer(t, "SameClifford", same, ok, want, true)
	same, ok = impl.SameClifford(b, a)
	checkAnswer(t, "SameClifford in the other order", same, ok, want, true)
}

// checkNotCompared has both orders of two circuits of which one has no tableau, or that have different numbers of qubits.
func checkNotCompared(t *testing.T, a impl.Circuit, b impl.Circuit) {
	t.Helper()
	same, ok := impl.SameClifford(a, b)
	checkAnswer(t, "SameClifford", same, ok, false, false)
	same, ok = impl.SameClifford(b, a)
	checkAnswer(t, "SameClifford in the other order", same, ok, false, false)
}

func TestSameCliffordInFull(t *testing.T) {
	cases := []struct {
		n    int
		a, b string
		want bool
	}{
		{1, "", "", true}, {1, "W", "", true}, {1, "Z 0", "S 0,S 0", true}, {1, "S' 0", "S 0,S 0,S 0", true}, {1, "Y 0", "X 0,Z 0", true},
		{1, "X 0,Z 0", "Z 0,X 0", true}, {1, "H 0,X 0,H 0", "Z 0", true}, {1, "H 0,S 0,H 0,S 0,H 0,S 0", "", true}, {1, "S 0,W,S 0,W,W", "Z 0", true},
		{1, "X 0", "", false}, {1, "Y 0", "", false}, {1, "Z 0", "", false}, {1, "S 0", "S' 0", false}, {1, "X 0", "Z 0", false}, {1, "H 0", "", false},
		{1, "X 0", "Y 0", false}, {1, "H 0,S 0", "S 0,H 0", false},
		{2, "SWAP 0 1", "CX 0 1,CX 1 0,CX 0 1", true}, {2, "CZ 0 1", "CZ 1 0", true}, {2, "CZ 0 1", "H 1,CX 0 1,H 1", true}, {2, "CX 0 1", "H 0,H 1,CX 1 0,H 1,H 0", true},
		{2, "CX 0 1", "CX 1 0", false}, {2, "H 0", "H 1", false}, {2, "CX 0 1,X 0", "X 0,CX 0 1", false}, {2, "CX 0 1,X 1", "X 1,CX 0 1", true}, {2, "CZ 0 1", "CX 0 1", false},
		{3, "CX 0 1,CX 1 2,CX 0 1,CX 1 2", "CX 0 2", true}, {3, "CX 0 1,CX 1 2", "CX 1 2,CX 0 1", false}, {5, "H 4,X 4,H 4,W", "Z 4", true}, {5, "SWAP 0 4", "SWAP 4 0", true}, {5, "X 3", "X 4", false},
	}
	for _, c := range cases {
		checkSame(t, gatesText(c.n, c.a), gatesText(c.n, c.b), c.want)
	}
}

// TestSameCliffordOfPairs compares the images that the rules of plainTableau give, and the operators of few qubits.
func TestSameCliffordOfPairs(t *testing.T) {
	for n := 1; n <= maxQubits; n++ {
		circuits, count := cliffordCircuits(n), 0
		for i, a := range circuits {
			for j, b := range circuits[:i+1] {
				want := slices.Equal(plainRun(a), plainRun(b))
				checkSame(t, a, b, want)
				if want && i != j {
					count++
				}
				if n <= 2 {
					same, ok := impl.SameOperator(a, b)
					checkAnswer(t, "SameOperator", same, ok, want, true)
				}
			}
		}
		if count == 0 {
			t.Error("no different circuits are the same on", n, "qubits")
		}
	}
}

// TestSameCliffordUpToPhase puts GtW into one of the circuits.
func TestSameCliffordUpToPhase(t *testing.T) {
	for n := 1; n <= maxQubits; n++ {
		for k := range 10 {
			c := withoutT(sampleCircuit(n, 5*k, k))
			for count := range 10 {
				phases := slices.Repeat([]impl.Gate{gate(impl.GtW, 0, 0)}, count)
				checkSame(t, c, circuit(n, slices.Concat(c.Gates, phases)...), true)
				checkSame(t, c, circuit(n, slices.Concat(phases, c.Gates)...), true)
			}
		}
	}
}

// TestSameCliffordOfOneSign puts one gate in front of a circuit, which changes the sign of one image.
func TestSameCliffordOfOneSign(t *testing.T) {
	for n := 1; n <= maxQubits; n++ {
		for k := range 10 {
			c := withoutT(sampleCircuit(n, 5*k, k))
			for q := range n {
				for _, kind := range []int{impl.GtX, impl.GtZ} {
					changed := circuit(n, append([]impl.Gate{gate(kind, q, 0)}, c.Gates...)...)
					checkSame(t, c, changed, false)
					before, after, count := plainRun(c), plainRun(changed), 0
					for place := range before {
						if before[place] != after[place] && before[place][1:] == after[place][1:] {
							count++
						}
					}
					if count != 1 {
						t.Error("number of signs that changed:", count)
					}
				}
			}
		}
	}
}

func TestSameCliffordNumbersOfQubits(t *testing.T) {
	for n := 1; n <= maxQubits; n++ {
		for m := 1; m <= maxQubits; m++ {
			for _, gates := range [][]impl.Gate{nil, {gate(impl.GtH, 0, 0)}, {gate(impl.GtW, 0, 0)}} {
				if n != m {
					checkNotCompared(t, circuit(n, gates...), circuit(m, gates...))
				} else {
					checkSame(t, circuit(n, gates...), circuit(m, gates...), true)
				}
			}
		}
	}
}

// TestSameCliffordWithT has these gates at each place, also where they cancel.
func TestSameCliffordWithT(t *testing.T) {
	for n := 1; n <= maxQubits; n++ {
		c := withoutT(sampleCircuit(n, 6, n))
		for _, kind := range []int{impl.GtT, impl.GtTdg} {
			for place := range len(c.Gates) + 1 {
				for q := range n {
					with := circuit(n, slices.Insert(slices.Clone(c.Gates), place, gate(kind, q, 0))...)
					checkNotCompared(t, c, with)
					checkNotCompared(t, with, with)
				}
			}
		}
		for _, gates := range [][]impl.Gate{{gate(impl.GtT, 0, 0), gate(impl.GtTdg, 0, 0)}, slices.Repeat([]impl.Gate{gate(impl.GtT, n-1, 0)}, 8)} {
			checkNotCompared(t, circuit(n), circuit(n, gates...))
			got, ok := impl.NormalizeClifford(circuit(n, gates...))
			checkNoCircuit(t, "NormalizeClifford with T", got, ok)
		}
	}
}

// frameCircuit has one gate for each letter.
func frameCircuit(letters string) impl.Circuit {
	c := circuit(len(letters))
	for q, letter := range letters {
		if kind := strings.IndexRune("IXYZ", letter); kind > 0 {
			c.Gates = append(c.Gates, gate([]int{0, impl.GtX, impl.GtY, impl.GtZ}[kind], q, 0))
		}
	}
	return c
}

// frameTableau has the sign - where the letter of the qubit and that of the generator differ and neither is I.
func frameTableau(letters string) impl.Tableau {
	images := plainGenerators(len(letters))
	for k, image := range images {
		if referenceAnticommute(image[1:], letters) {
			images[k] = "-" + image[1:]
		}
	}
	return images.tableau()
}

// TestPauliFrames has the tableaux of all Pauli operators.
func TestPauliFrames(t *testing.T) {
	for n := 1; n <= maxQubits; n++ {
		for _, letters := range letterTexts(n) {
			of := frameTableau(letters)
			checkTableau(t, "the tableau of "+letters, plainRun(frameCircuit(letters)).tableau(), true, of)
			only, ok := impl.SignOnly(of)
			checkAnswer(t, "SignOnly of "+letters, only, ok, true, true)
			p, ok := impl.PauliFrameOf(of)
			checkPauli(t, "PauliFrameOf "+letters, p, ok, pauli("+"+letters))
		}
	}
}

// checkFrame compares the letters of the images with those of the generators.
func checkFrame(t *testing.T, of impl.Tableau) bool {
	t.Helper()
	want := true
	for k, generator := range plainGenerators(of.Qubits) {
		want = want && plainOf(of)[k][1:] == generator[1:]
	}
	only, ok := impl.SignOnly(of)
	checkAnswer(t, "SignOnly", only, ok, want, true)
	p, ok := impl.PauliFrameOf(of)
	if !want {
		checkNoPauli(t, "PauliFrameOf an operator that is no Pauli operator", p, ok)
		return false
	}
	for k, image := range plainOf(of) {
		generator := pauli(plainGenerators(of.Qubits)[k])
		commute, fine := impl.Commute(of.Qubits, p, generator)
		checkAnswer(t, "Commute of the frame", commute, ok && fine, image[0] == '+', true)
	}
	if p.Phase != 0 || !impl.IsValidPauli(of.Qubits, p) {
		t.Error("the frame is not valid or has a phase:", p)
	}
	return true
}

func TestSignOnlyOfEverySmallTableau(t *testing.T) {
	for n := 1; n <= 2; n++ {
		count := 0
		for _, of := range allTableaux(n) {
			if checkFrame(t, of) {
				count++
			}
		}
		if count != 1<<(2*n) {
			t.Error("number of Pauli operators on", n, "qubits:", count)
		}
	}
}

func TestSignOnlyOfManyTableaux(t *testing.T) {
	for n := 3; n <= maxQubits; n++ {
		for _, of := range manyTableaux(n) {
			checkFrame(t, of)
		}
	}
}

// TestSignOnlyOfOneOtherImage has tableaux in which only a few images are no generators, on each qubit.
func TestSignOnlyOfOneOtherImage(t *testing.T) {
	for n := 1; n <= maxQubits; n++ {
		for q := range n {
			// GtS changes the image of X alone, and GtH, GtS, GtH that of Z alone.
			s, h := gate(impl.GtS, q, 0), gate(impl.GtH, q, 0)
			for _, c := range []impl.Circuit{circuit(n, s), circuit(n, h, s, h), circuit(n, h)} {
				for signs := range 1 << (2 * n) {
					only, ok := impl.SignOnly(withSigns(plainRun(c).tableau(), signs))
					checkAnswer(t, "SignOnly", only, ok, false, true)
				}
			}
		}
	}
}
