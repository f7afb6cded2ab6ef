package tests

import (
	"strings"
	"testing"

	"loop.example/g00864/impl"
)

// TestBlochOfProducts has both factors' words one behind the other, which is a product from right to left.
func TestBlochOfProducts(t *testing.T) {
	for _, first := range oneQubitWords() {
		for k, second := range oneQubitWords() {
			if k%3 != len(first)%3 && len(second) > 3 {
				continue
			}
			both, exists := impl.BlochOf(letterOperator(t, first+second))
			if !exists {
				t.Error("no Bloch matrix:", first, second)
			}
			got, ok := impl.MulBloch(letterBloch(t, second), letterBloch(t, first))
			checkBloch(t, "MulBloch for "+second+" and "+first, got, ok, both)
		}
	}
}

func TestBlochOfAdjoints(t *testing.T) {
	get, kept := mustMatrix(t), mustBloch(t)
	for _, word := range oneQubitWords() {
		b := letterBloch(t, word)
		transpose := kept(impl.TransposeBloch(b))
		checkBloch(t, "TransposeBloch for "+word, transpose, true, bloch(turnedOver(b.Cells)...))
		adjoint, ok := impl.BlochOf(get(impl.Adjoint(letterOperator(t, word))))
		checkBloch(t, "BlochOf the adjoint of "+word, adjoint, ok, transpose)
		again, ok := impl.TransposeBloch(transpose)
		checkBloch(t, "TransposeBloch twice for "+word, again, ok, b)
		product, ok := impl.MulBloch(b, transpose)
		checkBloch(t, "a product with its transpose for "+word, product, ok, wholeBloch(1, 0, 0, 0, 1, 0, 0, 0, 1))
		product, ok = impl.MulBloch(transpose, b)
		checkBloch(t, "a product with its transpose in front for "+word, product, ok, wholeBloch(1, 0, 0, 0, 1, 0, 0, 0, 1))
	}
}

func TestTransposeInFull(t *testing.T) {
	cases := [][2]string{
		{"h -h 0  h h 0  0 0 1", "h h 0  -h h 0  0 0 1"},
		{"0 1 0  0 0 1  1 0 0", "0 0 1  1 0 0  0 1 0"},
		{"q q h  -q -q h  h -h 0", "q -q h  q -q -h  h h 0"},
		{"1 0 0  0 1 0  0 0 1", "1 0 0  0 1 0  0 0 1"},
	}
	for _, c := range cases {
		got, ok := impl.TransposeBloch(blochText(c[0]))
		checkBloch(t, "TransposeBloch", got, ok, blochText(c[1]))
		got, ok = impl.TransposeBloch(blochText(c[1]))
		checkBloch(t, "TransposeBloch", got, ok, blochText(c[0]))
	}
}

func TestMulBlochInFull(t *testing.T) {
	cases := []struct{ a, b, want string }{
		{"h -h 0  h h 0  0 0 1", "h -h 0  h h 0  0 0 1", "0 -1 0  1 0 0  0 0 1"},
		{"h -h 0  h h 0  0 0 1", "0 0 1  0 -1 0  1 0 0", "0 h h  0 -h h  1 0 0"},
		{"0 0 1  0 -1 0  1 0 0", "h -h 0  h h 0  0 0 1", "0 0 1  -h -h 0  h -h 0"},
		{"h -h 0  h h 0  0 0 1", "0 0 1  -h -h 0  h -h 0", "q q h  -q -q h  h -h 0"},
		{"0 1 0  0 0 1  1 0 0", "-1 0 0  0 -1 0  0 0 1", "0 -1 0  0 0 1  -1 0 0"},
	}
	for _, c := range cases {
		got, ok := impl.MulBloch(blochText(c.a), blochText(c.b))
		checkBloch(t, "MulBloch", got, ok, blochText(c.want))
	}
}

func TestMulBlochOfThreeFactors(t *testing.T) {
	kept, words := mustBloch(t), oneQubitWords()[:30]
	for i, first := range words {
		a, b, c := letterBloch(t, first), letterBloch(t, words[(7*i+5)%len(words)]), letterBloch(t, words[(11*i+3)%len(words)])
		left, right := kept(impl.MulBloch(kept(impl.MulBloch(a, b)), c)), kept(impl.MulBloch(a, kept(impl.MulBloch(b, c))))
		checkBloch(t, "three factors", left, true, right)
		one := letterBloch(t, "")
		checkBloch(t, "1 in front", kept(impl.MulBloch(one, a)), true, a)
		checkBloch(t, "1 behind", kept(impl.MulBloch(a, one)), true, a)
	}
}

// TestBlochOfPhases has operators that differ by each power of w, as matrices and as circuits.
func TestBlochOfPhases(t *testing.T) {
	for _, word := range append(oneQubitWords(), normalWord(40, 1), normalWord(56, 2)) {
		m := letterOperator(t, word)
		want := operatorBloch(t, word)
		for k := range 8 {
			got, ok := impl.BlochOf(turned(m, k))
			checkBloch(t, "BlochOf a multiple for "+word, got, ok, want)
			got, ok = impl.BlochOf(letterOperator(t, strings.Repeat("W", k)+word))
			checkBloch(t, "BlochOf with GtW for "+word, got, ok, want)
		}
	}
}

// TestBlochExpCountsT has words in which no T can be saved.
func TestBlochExpCountsT(t *testing.T) {
	for count := range 30 {
		for seed := range 8 {
			word := normalWord(count, seed)
			exp, ok := impl.BlochExp(letterBloch(t, word))
			checkNumber(t, "BlochExp of "+word, exp, ok, count)
		}
	}
	for word, want := range map[string]int{
		"TT": 0, "TTT": 1, "Tt": 0, "THHT": 0, "TTHT": 1, "THTHt": 3, "TXT": 0, "TXTT": 1, "HTXTH": 0, "THTTHT": 2, "THTHHTHT": 2, "THSTHSTHST": 4, "WTWTW": 0, "TYtHT": 1,
	} {
		exp, ok := impl.BlochExp(letterBloch(t, word))
		checkNumber(t, "BlochExp of "+word, exp, ok, want)
	}
}

// allWords returns the words of some letters by length, and words of equal length in lexicographic order.
func allWords(letters string, length int) []string {
	list := []string{""}
	for at := 0; at < len(list) && len(list[at]) < length; at++ {
		for _, letter := range letters {
			list = append(list, list[at]+string(letter))
		}
	}
	return list
}

// isCliffordUpToPhase compares with the operators of all 24 words.
func isCliffordUpToPhase(t *testing.T, m impl.Matrix) bool {
	t.Helper()
	for _, word := range cliffordWords() {
		_, is, ok := impl.EqualUpToPhase(m, letterOperator(t, word))
		if !ok {
			t.Error("EqualUpToPhase fails for", word)
		}
		if is {
			return true
		}
	}
	return false
}

// TestBlochExpIsZeroForCliffordOperatorsOnly has all short words.
func TestBlochExpIsZeroForCliffordOperatorsOnly(t *testing.T) {
	clifford, other := 0, 0
	for _, word := range append(allWords("HST", 5), oneQubitWords()...) {
		is := isCliffordUpToPhase(t, letterOperator(t, word))
		b := letterBloch(t, word)
		exp, ok := impl.BlochExp(b)
		if !ok || (exp == 0) != is || exp < 0 {
			t.Error("BlochExp of", word, "is", exp, ok, "and the operator is a Clifford operator:", is)
		}
		index, ok := impl.CliffordIndex(b)
		if ok != is || (!ok && index != 0) {
			t.Error("CliffordIndex of", word, "is", index, ok)
		}
		if is {
			clifford++
		} else {
			other++
		}
	}
	if clifford < 50 || other < 50 {
		t.Error("the cases are not mixed:", clifford, other)
	}
}

// TestParityInFull has cells whose own exponent is less than the greatest one, among them 1 and 1/sqrt(2).
func TestParityInFull(t *testing.T) {
	cases := map[string]string{
		"": "100010001", "H": "001010100", "S": "010100001", "X": "100010001", "Y": "100010001", "HS": "010001100", "SH": "001100010",
		"T": "110110000", "t": "110110000", "TH": "000110110", "HT": "011011000", "HTH": "000011011",
		"THT": "110110000", "THTHT": "110110000", "THTHTH": "000110110", "HTHTHT": "011011000",
	}
	for word, want := range cases {
		got, ok := impl.ParityOf(letterBloch(t, word))
		checkText(t, "ParityOf "+word, got, ok, want, true)
	}
	for _, b := range allRotations() {
		want := ""
		for _, x := range b.Cells {
			want += string(rune('0' + x.Num.A*x.Num.A))
		}
		got, ok := impl.ParityOf(b)
		checkText(t, "ParityOf an integral matrix", got, ok, want, true)
	}
}

func TestParityOfManyWords(t *testing.T) {
	lower := 0
	for count := range 30 {
		for seed := range 6 {
			b := letterBloch(t, normalWord(count, seed))
			want := referenceParity(b)
			got, ok := impl.ParityOf(b)
			checkText(t, "ParityOf", got, ok, want, true)
			if len(got) != 9 || strings.Trim(got, "01") != "" {
				t.Error("not nine characters:", got)
			}
			for k, x := range b.Cells {
				if x.Exp < count && x.Num.A%2 != 0 {
					lower++
					if got[k] != '0' {
						t.Error("a cell with a lower exponent has the parity", got[k:k+1])
					}
				}
			}
		}
	}
	if lower < 100 {
		t.Error("there are few odd cells with a lower exponent:", lower)
	}
}
