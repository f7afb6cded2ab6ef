package tests

import (
	"math"
	"math/cmplx"
	"slices"
	"strings"
	"testing"

	"loop.example/g00864/impl"
)

func bloch(cells ...impl.Dyadic) impl.Bloch { return impl.Bloch{Cells: cells} }

// wholeBloch has integers as cells.
func wholeBloch(numbers ...int) impl.Bloch { return bloch(wholeMatrix(3, 3, numbers...).Cells...) }

// blochText reads cells with blanks between them: h and -h stand for 1/sqrt(2) and its negative, q and -q for 1/2 and its negative.
func blochText(text string) impl.Bloch {
	cells := map[string]impl.Dyadic{
		"0": whole(0), "1": whole(1), "-1": whole(-1), "h": rootHalf, "-h": dyadic(ring(-1, 0, 0, 0), 1),
		"q": dyadic(ring(1, 0, 0, 0), 2), "-q": dyadic(ring(-1, 0, 0, 0), 2),
	}
	var b impl.Bloch
	for _, word := range strings.Fields(text) {
		b.Cells = append(b.Cells, cells[word])
	}
	return b
}

func sameBloch(a impl.Bloch, b impl.Bloch) bool { return slices.Equal(a.Cells, b.Cells) }

func checkBloch(t *testing.T, what string, got impl.Bloch, ok bool, want impl.Bloch) {
	t.Helper()
	if !ok || !sameBloch(got, want) {
		t.Errorf("%s: got %v, %v, want %v", what, got, ok, want)
	}
}

func checkNoBloch(t *testing.T, what string, got impl.Bloch, ok bool) {
	t.Helper()
	if ok || len(got.Cells) != 0 {
		t.Errorf("%s: got %v, %v, want failure", what, got, ok)
	}
}

// mustBloch is for results that are valid Bloch matrices, too.
func mustBloch(t *testing.T) func(impl.Bloch, bool) impl.Bloch {
	return func(b impl.Bloch, ok bool) impl.Bloch {
		t.Helper()
		if !ok || !impl.IsValidBloch(b) {
			t.Error("a call failed or its result is not valid:", b, ok)
		}
		return b
	}
}

// letterCircuit has one gate on one qubit for each letter, the first letter's gate first; s and t are the inverses of S and T.
func letterCircuit(word string) impl.Circuit {
	kinds := map[rune]int{
		'H': impl.GtH, 'X': impl.GtX, 'Y': impl.GtY, 'Z': impl.GtZ, 'S': impl.GtS, 's': impl.GtSdg, 'T': impl.GtT, 't': impl.GtTdg, 'W': impl.GtW,
	}
	c := circuit(1)
	for _, letter := range word {
		c.Gates = append(c.Gates, gate(kinds[letter], 0, 0))
	}
	return c
}

func letterOperator(t *testing.T, word string) impl.Matrix {
	t.Helper()
	return mustMatrix(t)(impl.OperatorOf(letterCircuit(word)))
}

func letterBloch(t *testing.T, word string) impl.Bloch {
	t.Helper()
	return mustBloch(t)(impl.BlochOf(letterOperator(t, word)))
}

// normalWord has a number of letters T that cannot be lowered, with H or SH between any two of them, and some gates around them.
func normalWord(count int, seed int) string {
	d := dice(31*seed + count)
	word := d.pick("", "H", "S", "HS", "SSH", "X", "W")
	for k := range count {
		if k > 0 {
			word += d.pick("H", "SH", "HX", "sH")
		}
		word += d.pick("T", "t")
	}
	return word + d.pick("", "H", "S", "SH", "Z", "WW")
}

// oneQubitWords have no T, few of them and many.
func oneQubitWords() []string {
	list := []string{"", "H", "X", "Y", "Z", "S", "s", "T", "t", "W", "TT", "Tt", "HT", "TH", "THT", "HTH", "THTHT", "WTWHW", "TSHTXHt", "HSHSHS", "TTTTTTTT"}
	for count := range 20 {
		list = append(list, normalWord(count, 1), normalWord(count, 2))
	}
	return list
}

func TestOneQubitExamples(t *testing.T) {
	b, ok := impl.BlochOf(kindMatrix(impl.GtT))
	checkBloch(t, "BlochOf T", b, ok, blochText("h -h 0  h h 0  0 0 1"))
	least, ok := impl.BlochExp(b)
	checkNumber(t, "BlochExp of T", least, ok, 1)
	parity, ok := impl.ParityOf(b)
	checkText(t, "ParityOf T", parity, ok, "110110000", true)
	for k, want := range []string{"", "H", "S", "HS", "SH"} {
		word, ok := impl.CliffordWord(k)
		checkText(t, "CliffordWord", word, ok, want, true)
	}
	b, ok = impl.BlochOf(kindMatrix(impl.GtZ))
	checkBloch(t, "BlochOf Z", b, ok, wholeBloch(-1, 0, 0, 0, -1, 0, 0, 0, 1))
	index, ok := impl.CliffordIndex(b)
	if word, fine := impl.CliffordWord(index); !ok || !fine || word != "SS" {
		t.Error("the word of Z is", word, "with the index", index)
	}
}

func TestBlochOfWordsInFull(t *testing.T) {
	cases := []struct{ word, want string }{
		{"", "1 0 0  0 1 0  0 0 1"},
		{"W", "1 0 0  0 1 0  0 0 1"},
		{"H", "0 0 1  0 -1 0  1 0 0"},
		{"X", "1 0 0  0 -1 0  0 0 -1"},
		{"Y", "-1 0 0  0 1 0  0 0 -1"},
		{"Z", "-1 0 0  0 -1 0  0 0 1"},
		{"S", "0 -1 0  1 0 0  0 0 1"},
		{"s", "0 1 0  -1 0 0  0 0 1"},
		{"T", "h -h 0  h h 0  0 0 1"},
		{"t", "h h 0  -h h 0  0 0 1"},
		{"HS", "0 1 0  0 0 1  1 0 0"},
		{"SH", "0 0 1  -1 0 0  0 -1 0"},
		{"HT", "0 h h  0 -h h  1 0 0"},
		{"TH", "0 0 1  -h -h 0  h -h 0"},
		{"HTH", "1 0 0  0 h -h  0 h h"},
		{"THT", "q q h  -q -q h  h -h 0"},
	}
	for _, c := range cases {
		b, ok := impl.BlochOf(letterOperator(t, c.word))
		checkBloch(t, "BlochOf "+c.word, b, ok, blochText(c.want))
	}
}

// smallMatrix is a matrix of dimension 2 with rounded cells.
type smallMatrix [2][2]complex128

func (a smallMatrix) times(b smallMatrix) smallMatrix {
	var product smallMatrix
	for i := range 2 {
		for j := range 2 {
			product[i][j] = a[i][0]*b[0][j] + a[i][1]*b[1][j]
		}
	}
	return product
}

func (a smallMatrix) adjoint() smallMatrix {
	return smallMatrix{{cmplx.Conj(a[0][0]), cmplx.Conj(a[1][0])}, {cmplx.Conj(a[0][1]), cmplx.Conj(a[1][1])}}
}

// rounded returns a number as a machine computes with it.
func rounded(x impl.Dyadic) complex128 {
	sum, half := complex128(0), math.Sqrt(0.5)
	for k, a := range []int{x.Num.A, x.Num.B, x.Num.C, x.Num.D} {
		sum += complex(float64(a), 0) * []complex128{1, complex(half, half), 1i, complex(-half, half)}[k]
	}
	return sum / complex(math.Pow(math.Sqrt2, float64(x.Exp)), 0)
}

// roundedCell is one half of the trace of P(i) U P(j) U'.
func roundedCell(m impl.Matrix, i int, j int) complex128 {
	paulis := []smallMatrix{{{0, 1}, {1, 0}}, {{0, -1i}, {1i, 0}}, {{1, 0}, {0, -1}}}
	u := smallMatrix{{rounded(m.Cells[0]), rounded(m.Cells[1])}, {rounded(m.Cells[2]), rounded(m.Cells[3])}}
	product := paulis[i].times(u).times(paulis[j]).times(u.adjoint())
	return (product[0][0] + product[1][1]) / 2
}

// TestBlochOfRoundedCells has words up to the greatest exponents.
func TestBlochOfRoundedCells(t *testing.T) {
	words := oneQubitWords()
	for count := 20; count <= 57; count++ {
		words = append(words, normalWord(count, 3))
	}
	for _, word := range words {
		m := letterOperator(t, word)
		b, ok := impl.BlochOf(m)
		if !ok || len(b.Cells) != 9 {
			t.Error("no Bloch matrix:", word)
			continue
		}
		for k, x := range b.Cells {
			if got, want := rounded(x), roundedCell(m, k/3, k%3); cmplx.Abs(got-want) > 1e-6 {
				t.Errorf("cell %d for %s: got %v, want %v", k, word, got, want)
			}
		}
	}
}

// TestBlochOfHasTheConjugates checks that U P(j) U' is the sum of the cells of column j times P(i).
func TestBlochOfHasTheConjugates(t *testing.T) {
	get := mustMatrix(t)
	for _, word := range oneQubitWords() {
		m, b := letterOperator(t, word), letterBloch(t, word)
		paulis := []impl.Matrix{kindMatrix(impl.GtX), kindMatrix(impl.GtY), kindMatrix(impl.GtZ)}
		for j, p := range paulis {
			sum := filled(2, 2, whole(0))
			for i, q := range paulis {
				sum = get(impl.AddMatrix(sum, get(impl.ScaleMatrix(q, b.Cells[3*i+j]))))
			}
			checkMatrixLaw(t, "a column for "+word, get(impl.MulMatrix(sum, m)), get(impl.MulMatrix(m, p)))
		}
	}
}

func TestIsOneQubit(t *testing.T) {
	for _, word := range oneQubitWords() {
		m := letterOperator(t, word)
		for k := range 8 {
			if !impl.IsOneQubit(turned(m, k)) {
				t.Error("no one-qubit operator:", word, k)
			}
		}
	}
	for a := range 8 {
		for b := range 8 {
			x, y := powerOfOmega(a), powerOfOmega(b)
			if !impl.IsOneQubit(matrix(2, 2, x, whole(0), whole(0), y)) || !impl.IsOneQubit(matrix(2, 2, whole(0), x, y, whole(0))) {
				t.Error("no one-qubit operator:", x, y)
			}
		}
	}
}

// notUnitary are valid matrices of dimension 2.
func notUnitary() []impl.Matrix {
	list := []impl.Matrix{
		filled(2, 2, whole(0)), filled(2, 2, whole(1)), filled(2, 2, rootHalf), wholeMatrix(2, 2, 1, 1, 1, -1), wholeMatrix(2, 2, 1, 1, 0, 1),
		wholeMatrix(2, 2, 1, 0, 1, 1), wholeMatrix(2, 2, 2, 0, 0, 1), wholeMatrix(2, 2, 1, 0, 0, 0), wholeMatrix(2, 2, 1, 0, 1, 0), wholeMatrix(2, 2, 1, 0, 0, 2),
		matrix(2, 2, whole(1), whole(0), whole(0), rootHalf), matrix(2, 2, rootHalf, rootHalf, whole(0), whole(1)), matrix(2, 2, rootHalf, whole(0), whole(0), rootHalf),
		matrix(2, 2, dyadic(ring(0, 1, 0, -1), 0), whole(1), whole(1), dyadic(ring(0, 1, 0, -1), 0)), sampleMatrix(2, 2, 3, 2), whole22(),
	}
	for k := range 4 {
		h := hadamard()
		h.Cells[k].Num.A *= -1
		h.Cells[(k+1)%4].Num.A *= 3
		list = append(list, h)
	}
	return list
}

func checkNotOneQubit(t *testing.T, m impl.Matrix) {
	t.Helper()
	if impl.IsOneQubit(m) {
		t.Error("a one-qubit operator:", m)
	}
	b, ok := impl.BlochOf(m)
	checkNoBloch(t, "BlochOf", b, ok)
}

func TestIsOneQubitOfOtherMatrices(t *testing.T) {
	list := notUnitary()
	for _, n := range []int{1, 4, 8, 16, 32} {
		list = append(list, identity(n), filled(n, 2, whole(1)), filled(2, n, rootHalf), filled(n, n, whole(0)))
	}
	list = append(list, kindMatrix(impl.GtCX), kindMatrix(impl.GtSwap), matrix(1, 1, omega), matrix(2, 1, whole(1), whole(0)), matrix(1, 2, whole(0), whole(1)))
	for _, m := range list {
		checkNotOneQubit(t, m)
	}
}

// TestIsOneQubitWhereIsUnitaryFails has unitary matrices with exponents that are too great for their products, and matrices with great numerators.
func TestIsOneQubitWhereIsUnitaryFails(t *testing.T) {
	list := []impl.Matrix{
		filled(2, 2, whole(maxCoef)), filled(2, 2, dyadic(ring(1, 0, 0, 0), 31)), matrix(2, 2, whole(1), whole(0), whole(0), whole(maxCoef)),
		matrix(2, 2, whole(1), whole(0), whole(0), dyadic(ring(1, 0, 0, 0), maxExp)), wholeMatrix(2, 2, 0, 1, 31623, 0),
	}
	for _, word := range []string{normalWord(64, 1), normalWord(80, 2), normalWord(100, 3)} {
		list = append(list, letterOperator(t, word))
	}
	for _, m := range list {
		is, ok := impl.IsUnitary(m)
		checkAnswer(t, "IsUnitary", is, ok, false, false)
		checkNotOneQubit(t, m)
	}
}
