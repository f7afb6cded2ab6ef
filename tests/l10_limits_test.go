package tests

import (
	"math"
	"strings"
	"testing"

	"loop.example/g00864/impl"
)

// wrongSyllables cannot be those of a form.
func wrongSyllables() []string {
	list := []string{
		"TT", "HT", "ST", "THT", "TTH", "HST", "HHHHHT", "SSSSST", "HTH", "t", "h", "s", "Th", "hS", "sT", "X", "HX", "XH", "W", "HW", " ", " H", "H ", "H H", "T H", "0", "H0", "H\n", "\nH", "H\tS", "H\x00", "\x00", "\x00H", "-", "H-", "-H",
		"\u0397", "H\u0397", "\u0422", "\u0422H", "\u0405", "H\u0405S", "\uff28", "H\uff33", "H\u0301", "\u00c8", "\U0001d407", "H\U0001d412", "\ufffd", "H\ufffd", "T\ufffdS",
		"\xff", "H\xff", "\xffH", "T\xffH", "\xc3", "H\xc3", "\x80", "\x80S", "\xe2\x82", "H\xf0\x9f\x98", "\xed\xa0\x80", "\xc0\x88", "\xc1\x88", "H\xc1\x93", "\xc8", "\xd4", "\xd3", "S\xc8",
		strings.Repeat("H", maxSyllables+1), strings.Repeat("S", maxSyllables+1), "T" + strings.Repeat("HS", 20), strings.Repeat("T", maxSyllables), strings.Repeat("T", maxSyllables+1),
		strings.Repeat("H", maxSyllables-1) + "T", strings.Repeat("H", maxSyllables-1) + "\u0397", strings.Repeat("S", maxSyllables-1) + "\xff", strings.Repeat("\u0397", maxSyllables), strings.Repeat("\u0397", 20),
		strings.Repeat("H", maxSyllables) + "\x00", strings.Repeat("H", maxSyllables) + " ", strings.Repeat("H", 256), strings.Repeat("HS", 1<<15), strings.Repeat("H", 1<<16+3),
	}
	return list
}

// checkNotForm calls every function that has a form as an argument.
func checkNotForm(t *testing.T, f impl.NormalForm) {
	t.Helper()
	if impl.IsValidForm(f) {
		t.Errorf("valid: %+v", f)
	}
	m, ok := impl.MatrixOfForm(f)
	checkNoMatrix(t, "MatrixOfForm", m, ok)
	c, ok := impl.CircuitOfForm(f)
	checkNoCircuit(t, "CircuitOfForm", c, ok)
	text, ok := impl.FormatForm(f)
	checkText(t, "FormatForm", text, ok, "", false)
}

// checkIsForm calls every function that has a form as an argument.
func checkIsForm(t *testing.T, f impl.NormalForm) {
	t.Helper()
	_, made := impl.MatrixOfForm(f)
	c, placed := impl.CircuitOfForm(f)
	text, written := impl.FormatForm(f)
	if !impl.IsValidForm(f) || !made || !placed || !written || c.Qubits != 1 || text == "" {
		t.Errorf("not valid: %+v", f)
	}
}

func TestValidForms(t *testing.T) {
	for _, f := range append(manyForms(), fewForms(3)...) {
		checkIsForm(t, f)
	}
	for count := range maxSyllables + 1 {
		for _, syllables := range []string{strings.Repeat("H", count), strings.Repeat("S", count), ("T" + strings.Repeat("SH", 20))[:count], strings.Repeat("SSH", 14)[:count]} {
			checkIsForm(t, form(syllables, 23-count%24, count%8))
		}
	}
}

func TestFormsWithWrongSyllables(t *testing.T) {
	for _, syllables := range wrongSyllables() {
		checkNotForm(t, form(syllables, 0, 0))
		checkNotForm(t, form(syllables, 23, 7))
	}
}

// TestFormsWithAnyBytes has every byte in every place of some syllables, and every character of two bytes.
func TestFormsWithAnyBytes(t *testing.T) {
	valid := 0
	for b := range 256 {
		one := string([]byte{byte(b)})
		for _, text := range []string{"", "T", "H", "S", "HS", "THSH", strings.Repeat("S", maxSyllables-1)} {
			for k := range len(text) + 1 {
				changed := text[:k] + one + text[k:]
				if !isSyllables(changed) {
					checkNotForm(t, form(changed, 1, 1))
					continue
				}
				checkIsForm(t, form(changed, 1, 1))
				valid++
			}
		}
	}
	if valid < 40 {
		t.Error("few of the syllables are valid:", valid)
	}
	for character := rune(0x80); character < 0x800; character++ {
		checkNotForm(t, form(string(character), 0, 0))
		checkNotForm(t, form("H"+string(character), 0, 0))
	}
}

// TestFormsWithAnyInts has the least and greatest integers as the word and the phase.
func TestFormsWithAnyInts(t *testing.T) {
	wild := append([]int{0, 1, 7, 8, 15, 22, 23, 24, 25, 31, 256, 1 << 32, -1, -7, -8, -24, -256}, farInts()...)
	wild = append(wild, math.MinInt, math.MinInt+1, math.MaxInt-1, math.MaxInt)
	for _, index := range wild {
		for _, phase := range wild {
			for _, syllables := range []string{"", "T", "HS"} {
				f := form(syllables, index, phase)
				if index >= 0 && index <= 23 && phase >= 0 && phase <= 7 {
					checkIsForm(t, f)
				} else {
					checkNotForm(t, f)
				}
			}
			checkNotForm(t, form("HT", index, phase))
		}
		for _, k := range wild {
			f, ok := impl.FormAt(index, k)
			count, counted := impl.CountForms(index)
			if ok != (counted && k >= 0 && k < count) || !ok && f != (impl.NormalForm{}) {
				t.Error("FormAt of", index, k, "is", f, ok)
			}
		}
	}
}

func greatestExp(cells []impl.Dyadic) int {
	greatest := 0
	for _, x := range cells {
		greatest = max(greatest, x.Exp)
	}
	return greatest
}

// checkNoFormOf calls every function that has a matrix as an argument.
func checkNoFormOf(t *testing.T, m impl.Matrix) {
	t.Helper()
	f, ok := impl.NormalFormOf(m)
	checkNoForm(t, "NormalFormOf", f, ok)
	count, ok := impl.LeastTCount(m)
	checkNoNumber(t, "LeastTCount", count, ok)
}

func TestFormsOfMatricesThatAreNoOperators(t *testing.T) {
	list := append(invalidMatrices(), notUnitary()...)
	for _, n := range []int{1, 4, 8, 16, 32} {
		list = append(list, identity(n), filled(n, 2, whole(1)), filled(2, n, rootHalf), filled(n, n, whole(0)))
	}
	list = append(list, kindMatrix(impl.GtCX), kindMatrix(impl.GtSwap), matrix(1, 1, omega), matrix(2, 1, whole(1), whole(0)), matrix(2, 2, identity(2).Cells[:3]...), matrix(2, 2, identity(4).Cells...))
	for _, x := range invalidDyadics() {
		list = append(list, matrix(2, 2, x, whole(0), whole(0), whole(1)), matrix(2, 2, whole(1), whole(0), whole(0), x), matrix(2, 2, whole(0), x, whole(1), whole(0)))
	}
	for _, m := range list {
		checkNoFormOf(t, m)
	}
}

// TestFormsWithMaxSyllables has operators that need MaxSyllables and one more, and all numbers up to those for which BlochOf fails.
func TestFormsWithMaxSyllables(t *testing.T) {
	beyond, failed := 0, 0
	for _, word := range append(limitWords(), normalWord(40, 7), normalWord(41, 7)) {
		m := letterOperator(t, word)
		b, exists := impl.BlochOf(m)
		if !exists {
			failed++
			checkNoFormOf(t, m)
			continue
		}
		count, ok := impl.LeastTCount(m)
		checkNumber(t, "LeastTCount of "+word, count, ok, greatestExp(b.Cells))
		checkNumber(t, "LeastTCount of "+word, count, ok, tCount(word))
		f, ok := impl.NormalFormOf(m)
		if count > maxSyllables {
			beyond++
			checkNoForm(t, "NormalFormOf "+word, f, ok)
			continue
		}
		checkMatrixLaw(t, "the operator of the form of "+word, mustMatrix(t)(impl.MatrixOfForm(mustForm(t)(f, ok))), m)
	}
	if beyond < 40 || failed < 25 {
		t.Error("the cases are not mixed:", beyond, failed)
	}
}

// TestMatrixOfFormIsWithinTheLimits has all numbers of syllables: the exponents and numerators grow, but remain far below the limits.
func TestMatrixOfFormIsWithinTheLimits(t *testing.T) {
	for count := range maxSyllables + 1 {
		for seed := range 10 {
			m := mustMatrix(t)(impl.MatrixOfForm(sampleForm(count, 70+seed)))
			exp, ok := impl.LeastExp(m)
			if !ok || exp > count/2+2 || 2*exp < count {
				t.Error("the exponent for", count, "syllables is", exp, ok)
			}
			for _, x := range m.Cells {
				for _, a := range []int{x.Num.A, x.Num.B, x.Num.C, x.Num.D} {
					if math.Abs(float64(a)) > math.Pow(math.Sqrt2, float64(exp)) {
						t.Error("a great numerator:", x)
					}
				}
			}
		}
	}
}

func checkNotReduced(t *testing.T, c impl.Circuit) {
	t.Helper()
	got, ok := impl.ReduceOneQubit(c)
	checkNoCircuit(t, "ReduceOneQubit", got, ok)
}

func TestReduceOneQubitOfOtherCircuits(t *testing.T) {
	checkNotReduced(t, impl.Circuit{})
	for _, n := range append(invalidQubitCounts(), 2, 3, 4, 5) {
		checkNotReduced(t, circuit(n))
		checkNotReduced(t, circuit(n, gate(impl.GtH, 0, 0)))
		checkNotReduced(t, circuit(n, gate(impl.GtT, 0, 0), gate(impl.GtT, 0, 0)))
	}
	checkNotReduced(t, circuit(2, gate(impl.GtCX, 0, 1)))
	checkNotReduced(t, circuit(2, gate(impl.GtW, 0, 0)))
	for k, g := range invalidGates(1) {
		checkNotReduced(t, circuit(1, g))
		c := sampleCircuit(1, 6, k)
		checkNotReduced(t, circuit(1, append(c.Gates, g)...))
		checkNotReduced(t, circuit(1, append([]impl.Gate{g}, c.Gates...)...))
	}
	for _, g := range validGates(1) {
		checkNotReduced(t, repeatedGate(1, g, maxGates+1))
	}
}

// TestReduceOneQubitBeyondTheLimits has circuits without a form, without a Bloch matrix and without an operator.
func TestReduceOneQubitBeyondTheLimits(t *testing.T) {
	for count := maxSyllables + 1; count <= 133; count++ {
		checkNotReduced(t, letterCircuit(normalWord(count, 2)))
	}
	for _, word := range []string{strings.Repeat("HT", 41), strings.Repeat("HT", 60), strings.Repeat("HT", 200), strings.Repeat("THS", 133)} {
		checkNotReduced(t, letterCircuit(word))
	}
	for _, word := range []string{strings.Repeat("HT", 40), strings.Repeat("TH", 40) + "S"} {
		checkReduced(t, letterCircuit(word))
	}
	_, ok := impl.OperatorOf(letterCircuit(strings.Repeat("HT", 200)))
	if ok {
		t.Error("the longest circuit has an operator")
	}
}

// TestFormsOfAnyInts has the least and greatest integers in matrices and circuits.
func TestFormsOfAnyInts(t *testing.T) {
	wild := []int{math.MinInt, math.MinInt + 1, -maxCoef - 1, -maxCoef, -1, 0, 1, 2, 7, 60, 61, maxCoef, maxCoef + 1, 1 << 32, math.MaxInt - 1, math.MaxInt}
	for _, a := range wild {
		for _, b := range wild {
			for _, x := range []impl.Dyadic{dyadic(ring(a, b, 0, -b), 0), dyadic(ring(a, 0, b, 0), 1), dyadic(ring(1, a, 0, -a), b), dyadic(ring(0, a, 0, b), a), dyadic(ring(0, 0, 0, a), b)} {
				for place := range 4 {
					m := identity(2)
					m.Cells[place] = x
					checkFormAgreement(t, m)
				}
			}
			checkFormAgreement(t, matrix(a, b, identity(2).Cells...))
			for _, kind := range wild {
				if c := circuit(1, gate(kind, a, b)); impl.IsValidCircuit(c) {
					checkReduced(t, c)
				} else {
					checkNotReduced(t, c)
				}
			}
			if a != 1 {
				checkNotReduced(t, circuit(a, gate(impl.GtH, b, 0)))
			}
		}
	}
}

func checkFormAgreement(t *testing.T, m impl.Matrix) {
	t.Helper()
	if !impl.IsOneQubit(m) {
		checkNoFormOf(t, m)
		return
	}
	f := mustForm(t)(impl.NormalFormOf(m))
	checkMatrixLaw(t, "the operator of a form", mustMatrix(t)(impl.MatrixOfForm(f)), m)
	count, ok := impl.LeastTCount(m)
	checkNumber(t, "LeastTCount", count, ok, len(f.Syllables))
}
