package tests

import (
	"strings"
	"testing"

	"loop.example/g00864/impl"
)

// gatesText reads the texts of gates that are separated by a comma and a blank.
func gatesText(n int, gates string) impl.Circuit {
	return circuitOf(n, strings.FieldsFunc(gates, func(r rune) bool { return r == ',' })...)
}

// tableauText returns the tableau of such a circuit, found by the rules of plainTableau.
func tableauText(n int, gates string) impl.Tableau { return plainRun(gatesText(n, gates)).tableau() }

// sampleTableau is that of a sample of gates on n qubits.
func sampleTableau(n int, count int, seed int) impl.Tableau {
	return plainRun(withoutT(sampleCircuit(n, count, seed))).tableau()
}

// allTableaux are those on one or two qubits.
func allTableaux(n int) []impl.Tableau {
	var list []impl.Tableau
	for _, letters := range validLetters(n) {
		for signs := range 1 << (2 * n) {
			list = append(list, signed(letters, signs))
		}
	}
	return list
}

// withSigns replaces the signs of all images by the bits of a number.
func withSigns(of impl.Tableau, signs int) impl.Tableau {
	changed := copyOf(of)
	for q := range of.Qubits {
		changed.XImages[q].Phase = signs >> q & 1 * 2
		changed.ZImages[q].Phase = signs >> (of.Qubits + q) & 1 * 2
	}
	return changed
}

// manyTableaux are all on one qubit, and those of gates, of samples and of choices of signs on more.
func manyTableaux(n int) []impl.Tableau {
	if n == 1 {
		return allTableaux(1)
	}
	var list []impl.Tableau
	for _, c := range cliffordCircuits(n) {
		list = append(list, plainRun(c).tableau())
	}
	for k := range 150 {
		list = append(list, sampleTableau(n, 3+k, 7*k+n))
	}
	for signs := range 1 << (2 * n) {
		list = append(list, withSigns(list[signs*signs%len(list)], signs), withSigns(generators(n), signs))
	}
	return list
}

func TestCliffordExamples(t *testing.T) {
	c, ok := impl.SynthesizeClifford(tableauText(1, "H 0"))
	checkCircuit(t, "SynthesizeClifford of H", c, ok, gatesText(1, "H 0"))
	c, ok = impl.SynthesizeClifford(tableauText(1, "S 0"))
	checkCircuit(t, "SynthesizeClifford of S", c, ok, gatesText(1, "Z 0,S 0,S 0,S 0"))
	c, ok = impl.NormalizeClifford(gatesText(1, "H 0,H 0"))
	checkCircuit(t, "NormalizeClifford of H, H", c, ok, circuit(1))
	only, ok := impl.SignOnly(tableauText(1, "X 0"))
	checkAnswer(t, "SignOnly of X", only, ok, true, true)
	only, ok = impl.SignOnly(tableauText(1, "S 0"))
	checkAnswer(t, "SignOnly of S", only, ok, false, true)
	p, ok := impl.PauliFrameOf(tableauText(1, "Y 0"))
	checkPauli(t, "PauliFrameOf Y", p, ok, pauli("+Y"))
	c, ok = impl.LeastWord(tableauText(1, "X 0"))
	checkCircuit(t, "LeastWord of X", c, ok, gatesText(1, "H 0,S 0,S 0,H 0"))
	order, ok := impl.OrderOf(tableauText(1, "S 0"))
	checkNumber(t, "OrderOf S", order, ok, 4)
	order, ok = impl.OrderOf(tableauText(1, "H 0"))
	checkNumber(t, "OrderOf H", order, ok, 2)
}

// TestSynthesisInFull has each case of the four steps.
func TestSynthesisInFull(t *testing.T) {
	cases := []struct{ xs, zs, want string }{
		{"+X", "+Z", ""},
		{"+X", "-Z", "X 0"},
		{"-X", "+Z", "Z 0"},
		{"-X", "-Z", "X 0,Z 0"},
		{"+Z", "+X", "H 0"},
		{"-Z", "+X", "Z 0,H 0"},
		{"+Z", "-X", "X 0,H 0"},
		{"+Y", "+Z", "Z 0,S 0,S 0,S 0"},
		{"-Y", "+Z", "S 0,S 0,S 0"},
		{"+X", "+Y", "H 0,S 0,S 0,S 0,H 0"},
		{"+X", "-Y", "X 0,H 0,S 0,S 0,S 0,H 0"},
		{"+Z", "+Y", "X 0,H 0,S 0,S 0,S 0,H 0,H 0"},
		{"+XX +IX", "+ZI +ZZ", "CX 0 1"},
		{"+XI +XX", "+ZZ +IZ", "H 1,H 0,CX 0 1,H 1,H 0"},
		{"+XZ +ZX", "+ZI +IZ", "H 1,CX 0 1,H 1"},
		{"+IX +XI", "+IZ +ZI", "CX 1 0,CX 0 1,CX 1 0"},
		{"+XI +IZ", "+ZI +IX", "H 1"},
		{"+XI +IY", "+ZI +IZ", "Z 1,S 1,S 1,S 1"},
		{"-XI +IX", "+ZI -IZ", "X 1,Z 0"},
		{"+XXX +IXI +IIX", "+ZII +ZZI +ZIZ", "CX 0 2,CX 0 1"},
		{"+IIX +IXI +XII", "+IIZ +IZI +ZII", "CX 2 0,CX 0 2,CX 2 0"},
		{"+ZII +IXX +IIX", "+XXX +ZZI +IZZ", "CX 1 2,H 0,CX 0 2,CX 0 1,H 0,H 0"},
	}
	for _, c := range cases {
		of := tableau(c.xs, c.zs)
		got, ok := impl.SynthesizeClifford(of)
		checkCircuit(t, "SynthesizeClifford of "+c.xs+" and "+c.zs, got, ok, gatesText(of.Qubits, c.want))
	}
}

// checkSynthesis checks the tableau of the result, its gates one by one, and their kinds.
func checkSynthesis(t *testing.T, of impl.Tableau) {
	t.Helper()
	got, ok := impl.SynthesizeClifford(of)
	checkCircuit(t, "SynthesizeClifford", got, ok, plainSynthesis(of))
	if gatesOf(got, impl.GtH, impl.GtS, impl.GtCX, impl.GtX, impl.GtZ) != len(got.Gates) {
		t.Error("other kinds of gates:", got)
	}
	back, ok := impl.TableauOf(got)
	checkTableau(t, "the tableau of the circuit", back, ok, of)
}

func TestSynthesisOfEverySmallTableau(t *testing.T) {
	for n := 1; n <= 2; n++ {
		list := allTableaux(n)
		if len(list) != []int{0, 24, 11520}[n] {
			t.Error("number of tableaux on", n, "qubits:", len(list))
		}
		for _, of := range list {
			checkSynthesis(t, of)
		}
	}
}

func TestSynthesisOfManyTableaux(t *testing.T) {
	for n := 3; n <= maxQubits; n++ {
		for _, of := range manyTableaux(n) {
			checkSynthesis(t, of)
		}
	}
}

// TestSynthesisHasTheOperator compares the operators themselves.
func TestSynthesisHasTheOperator(t *testing.T) {
	kept := mustCircuit(t)
	for n := 1; n <= 3; n++ {
		for k := range 20 {
			c := withoutT(sampleCircuit(n, 2*k, k))
			of, ok := impl.TableauOf(c)
			same, fine := impl.SameOperator(c, kept(impl.SynthesizeClifford(of)))
			checkAnswer(t, "SameOperator", same, ok && fine, true, true)
			same, fine = impl.SameOperator(c, kept(impl.NormalizeClifford(c)))
			checkAnswer(t, "SameOperator of NormalizeClifford", same, fine, true, true)
		}
	}
}

// TestNormalize has every gate, phases, and long circuits.
func TestNormalize(t *testing.T) {
	for n := 1; n <= maxQubits; n++ {
		phase := gate(impl.GtW, 0, 0)
		list := append(cliffordCircuits(n), repeatedGate(n, gate(impl.GtS, n-1, 0), maxGates-1), repeatedGate(n, phase, maxGates))
		for _, c := range list {
			got, ok := impl.NormalizeClifford(c)
			checkCircuit(t, "NormalizeClifford", got, ok, plainSynthesis(plainRun(c).tableau()))
			again, ok := impl.NormalizeClifford(got)
			checkCircuit(t, "NormalizeClifford twice", again, ok, got)
			again, ok = impl.NormalizeClifford(circuit(n, append([]impl.Gate{phase, phase, phase}, got.Gates...)...))
			checkCircuit(t, "NormalizeClifford with GtW", again, ok, got)
		}
	}
}

func TestNormalizeInFull(t *testing.T) {
	cases := []struct {
		n           int
		gates, want string
	}{
		{1, "", ""}, {1, "W", ""}, {1, "X 0", "X 0"}, {1, "Y 0", "X 0,Z 0"}, {1, "Z 0", "Z 0"}, {1, "S 0,S 0", "Z 0"},
		{1, "S' 0", "S 0,S 0,S 0"}, {1, "S 0,S 0,S 0", "S 0,S 0,S 0"}, {1, "H 0,X 0,H 0", "Z 0"},
		{2, "CX 0 1,CX 0 1", ""}, {2, "CZ 1 0", "H 1,CX 0 1,H 1"}, {2, "SWAP 0 1", "CX 1 0,CX 0 1,CX 1 0"}, {2, "SWAP 1 0", "CX 1 0,CX 0 1,CX 1 0"},
		{2, "CX 1 0", "H 1,H 0,CX 0 1,H 1,H 0"}, {3, "X 2,Z 0,Y 1", "X 2,X 1,Z 1,Z 0"}, {5, "CX 3 4", "CX 3 4"}, {5, "H 4,W,H 4", ""},
	}
	for _, c := range cases {
		got, ok := impl.NormalizeClifford(gatesText(c.n, c.gates))
		checkCircuit(t, "NormalizeClifford of "+c.gates, got, ok, gatesText(c.n, c.want))
	}
}
