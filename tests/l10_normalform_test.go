package tests

import (
	"slices"
	"strings"
	"testing"

	"loop.example/g00864/impl"
)

const maxSyllables = 40

func form(syllables string, index int, phase int) impl.NormalForm {
	return impl.NormalForm{Syllables: syllables, Clifford: index, Phase: phase}
}

func checkForm(t *testing.T, what string, got impl.NormalForm, ok bool, want impl.NormalForm) {
	t.Helper()
	if !ok || got != want {
		t.Errorf("%s: got %+v, %v, want %+v", what, got, ok, want)
	}
}

func checkNoForm(t *testing.T, what string, got impl.NormalForm, ok bool) {
	t.Helper()
	if ok || got != (impl.NormalForm{}) {
		t.Errorf("%s: got %+v, %v, want failure", what, got, ok)
	}
}

func mustForm(t *testing.T) func(impl.NormalForm, bool) impl.NormalForm {
	return func(f impl.NormalForm, ok bool) impl.NormalForm {
		t.Helper()
		if !ok || !impl.IsValidForm(f) {
			t.Errorf("a call failed or its result is not valid: %+v, %v", f, ok)
		}
		return f
	}
}

// syllableTexts returns the syllables of all forms with n syllables; the first one differs last.
func syllableTexts(n int) []string {
	list := []string{""}
	for k := range n {
		var longer []string
		for _, text := range list {
			for _, letter := range []string{"THS", "HS"}[min(k, 1)] {
				longer = append(longer, text+string(letter))
			}
		}
		list = longer
	}
	return list
}

// fewForms returns the forms with at most n syllables and the phase 0, those with few syllables first.
func fewForms(n int) []impl.NormalForm {
	var list []impl.NormalForm
	for count := range n + 1 {
		for _, syllables := range syllableTexts(count) {
			for index := range 24 {
				list = append(list, form(syllables, index, 0))
			}
		}
	}
	return list
}

func sampleForm(count int, seed int) impl.NormalForm {
	d, syllables := dice(53*seed+count), ""
	for k := range count {
		syllables += d.pick([]string{"T", "H", "S"}[min(k, 1):]...)
	}
	return form(syllables, d.below(24), d.below(8))
}

// manyForms have all numbers of syllables, all words and all phases.
func manyForms() []impl.NormalForm {
	list := []impl.NormalForm{
		form(strings.Repeat("H", maxSyllables), 0, 7), form(strings.Repeat("S", maxSyllables), 23, 0), form("T"+strings.Repeat("HS", 19)+"H", 12, 5), form("T"+strings.Repeat("S", 39), 8, 1),
	}
	for count := range maxSyllables + 1 {
		for seed := range 4 {
			list = append(list, sampleForm(count, seed))
		}
	}
	for index := range 24 {
		for phase := range 8 {
			list = append(list, form("", index, phase), form([]string{"T", "H", "S", "TH", "HH", "SS", "THS"}[(index+phase)%7], index, phase))
		}
	}
	return list
}

// formWord has the letters of a form's gates, the first one's gate first.
func formWord(f impl.NormalForm) string {
	word := cliffordWords()[f.Clifford]
	for k := len(f.Syllables) - 1; k >= 0; k-- {
		word += map[byte]string{'T': "T", 'H': "TH", 'S': "THS"}[f.Syllables[k]]
	}
	return word + strings.Repeat("W", f.Phase)
}

// plainProduct multiplies the factors of a form from left to right.
func plainProduct(t *testing.T, f impl.NormalForm) impl.Matrix {
	t.Helper()
	h, s, phaseGate := kindMatrix(impl.GtH), kindMatrix(impl.GtS), kindMatrix(impl.GtT)
	var factors []impl.Matrix
	for k := range len(f.Syllables) {
		factors = append(factors, map[byte][]impl.Matrix{'T': {phaseGate}, 'H': {h, phaseGate}, 'S': {s, h, phaseGate}}[f.Syllables[k]]...)
	}
	word := []byte(cliffordWords()[f.Clifford])
	slices.Reverse(word)
	for _, letter := range word {
		factors = append(factors, map[byte]impl.Matrix{'H': h, 'S': s}[letter])
	}
	product := matrix(2, 2, powerOfOmega(f.Phase), whole(0), whole(0), powerOfOmega(f.Phase))
	for _, factor := range factors {
		longer, ok := referenceMul(product, factor)
		if !ok {
			t.Errorf("no product: %+v", f)
		}
		product = longer
	}
	return product
}

func TestNormalFormExamples(t *testing.T) {
	f, ok := impl.NormalFormOf(kindMatrix(impl.GtT))
	checkForm(t, "NormalFormOf T", f, ok, form("T", 0, 0))
	f, ok = impl.NormalFormOf(letterOperator(t, "HTH"))
	checkForm(t, "NormalFormOf HTH", f, ok, form("H", 1, 0))
	text, ok := impl.FormatForm(f)
	checkText(t, "FormatForm", text, ok, "H 1 0", true)
	c, ok := impl.CircuitOfForm(f)
	checkCircuit(t, "CircuitOfForm", c, ok, circuitOf(1, "H 0", "T 0", "H 0"))
	count, ok := impl.LeastTCount(kindMatrix(impl.GtS))
	checkNumber(t, "LeastTCount of S", count, ok, 0)
	c, ok = impl.ReduceOneQubit(circuitOf(1, "T 0", "T 0"))
	checkCircuit(t, "ReduceOneQubit", c, ok, circuitOf(1, "S 0"))
	count, ok = impl.CountForms(2)
	checkNumber(t, "CountForms", count, ok, 144)
	f, ok = impl.FormAt(2, 25)
	checkForm(t, "FormAt", f, ok, form("TS", 1, 0))
}

// halfPowers has powers of w divided by the square root of 2.
func halfPowers(a int, b int, c int, d int) impl.Matrix {
	var cells []impl.Dyadic
	for _, k := range []int{a, b, c, d} {
		cells = append(cells, dyadic(powerOfOmega(k).Num, 1))
	}
	return matrix(2, 2, cells...)
}

func TestMatrixOfFormInFull(t *testing.T) {
	plus, minus := dyadic(ring(1, 1, 0, 0), 2), dyadic(ring(1, -1, 0, 0), 2)
	cases := []struct {
		f    impl.NormalForm
		want impl.Matrix
	}{
		{form("", 0, 0), identity(2)},
		{form("", 0, 3), phases(3, 3)},
		{form("T", 0, 0), phases(0, 1)},
		{form("H", 0, 0), halfPowers(0, 1, 0, 5)},
		{form("S", 0, 0), halfPowers(0, 1, 2, 7)},
		{form("", 1, 0), halfPowers(0, 0, 0, 4)},
		{form("", 2, 0), phases(0, 2)},
		{form("T", 1, 0), halfPowers(0, 0, 1, 5)},
		{form("T", 2, 0), phases(0, 3)},
		{form("T", 3, 0), halfPowers(0, 0, 3, 7)},
		{form("T", 4, 0), halfPowers(0, 2, 1, 7)},
		{form("T", 4, 6), halfPowers(6, 0, 7, 5)},
		{form("H", 2, 0), halfPowers(0, 3, 0, 7)},
		{form("S", 2, 7), halfPowers(7, 2, 1, 0)},
		{form("H", 1, 0), matrix(2, 2, plus, minus, minus, plus)},
		{form("TH", 0, 0), halfPowers(0, 1, 1, 6)},
		{form("TS", 0, 0), halfPowers(0, 1, 3, 0)},
	}
	for _, c := range cases {
		got, ok := impl.MatrixOfForm(c.f)
		checkMatrix(t, "MatrixOfForm", got, ok, c.want)
		f, ok := impl.NormalFormOf(c.want)
		checkForm(t, "NormalFormOf", f, ok, c.f)
	}
}

func TestMatrixOfFormIsTheProduct(t *testing.T) {
	for _, f := range append(manyForms(), fewForms(2)...) {
		got, ok := impl.MatrixOfForm(f)
		checkMatrix(t, "MatrixOfForm", got, ok, plainProduct(t, f))
	}
}

// TestMatrixOfFormOfWordsAndPhases has all words and phases behind the same syllables.
func TestMatrixOfFormOfWordsAndPhases(t *testing.T) {
	for _, syllables := range []string{"", "T", "HS", "TSSH", strings.Repeat("SHH", 13) + "S"} {
		first := mustMatrix(t)(impl.MatrixOfForm(form(syllables, 0, 0)))
		for index, word := range cliffordWords() {
			product := mustMatrix(t)(impl.MulMatrix(first, letterOperator(t, word)))
			for phase := range 8 {
				got, ok := impl.MatrixOfForm(form(syllables, index, phase))
				checkMatrix(t, "MatrixOfForm", got, ok, turned(product, phase))
			}
		}
	}
}

func TestCircuitOfFormInFull(t *testing.T) {
	cases := []struct {
		f    impl.NormalForm
		want string
	}{
		{form("", 0, 0), ""}, {form("", 0, 1), "W"}, {form("", 0, 7), "WWWWWWW"}, {form("", 23, 0), "HSSHSS"}, {form("", 4, 2), "SHWW"},
		{form("T", 0, 0), "T"}, {form("H", 0, 0), "TH"}, {form("S", 0, 0), "THS"}, {form("T", 3, 0), "HST"}, {form("H", 3, 1), "HSTHW"}, {form("S", 16, 3), "HSHSSTHSWWW"},
		{form("TS", 1, 0), "HTHST"}, {form("TH", 0, 0), "THT"}, {form("HS", 0, 0), "THSTH"}, {form("SH", 0, 0), "THTHS"}, {form("HH", 2, 4), "STHTHWWWW"},
		{form("THS", 5, 0), "SSTHSTHT"}, {form("SHHS", 10, 2), "SSSTHSTHTHTHSWW"}, {form("TSSH", 1, 0), "HTHTHSTHST"},
	}
	for _, c := range cases {
		got, ok := impl.CircuitOfForm(c.f)
		checkCircuit(t, "CircuitOfForm", got, ok, letterCircuit(c.want))
	}
	for _, f := range append(manyForms(), fewForms(3)...) {
		got, ok := impl.CircuitOfForm(f)
		checkCircuit(t, "CircuitOfForm", got, ok, letterCircuit(formWord(f)))
	}
}

func TestNormalFormsOfWordsInFull(t *testing.T) {
	cases := map[string]impl.NormalForm{
		"": form("", 0, 0), "W": form("", 0, 1), "H": form("", 1, 0), "S": form("", 2, 0), "s": form("", 10, 0), "Z": form("", 5, 0), "X": form("", 12, 0), "Y": form("", 23, 6),
		"T": form("T", 0, 0), "t": form("T", 10, 0), "TT": form("", 2, 0), "Tt": form("", 0, 0), "TTT": form("T", 2, 0), "TTTTTTTT": form("", 0, 0), "TH": form("H", 0, 0), "HT": form("T", 1, 0),
		"THS": form("S", 0, 0), "THST": form("TS", 0, 0), "THT": form("TH", 0, 0), "THTH": form("HH", 0, 0), "WTWHW": form("H", 0, 3), "HTTH": form("", 6, 0), "XTX": form("T", 10, 1), "ZTZ": form("T", 0, 0),
	}
	for word, want := range cases {
		got, ok := impl.NormalFormOf(letterOperator(t, word))
		checkForm(t, "NormalFormOf "+word, got, ok, want)
	}
}

func TestReduceOneQubitInFull(t *testing.T) {
	cases := map[string]string{
		"": "", "W": "W", "WWWWWWWWW": "W", "H": "H", "HH": "", "SSSS": "", "s": "SSS", "X": "HSSH", "Y": "HSSHSSWWWWWW", "Z": "SS", "HSHSHS": "W",
		"T": "T", "t": "SSST", "TT": "S", "Tt": "", "tT": "", "TTT": "ST", "TTTTTTTT": "", "TZ": "SST", "WTW": "TWW", "XTX": "SSSTW", "XTXt": "SSSW",
		"HTH": "HTH", "THHT": "S", "THTHHT": "THS", "THTTHT": "HSSHTHST", "THTHT": "THTHT", "THST": "THST",
	}
	for word, want := range cases {
		got, ok := impl.ReduceOneQubit(letterCircuit(word))
		checkCircuit(t, "ReduceOneQubit "+word, got, ok, letterCircuit(want))
	}
}
