package tests

import (
	"slices"
	"strings"
	"testing"

	"loop.example/g00864/impl"
)

// pauli reads a text such as "-iXYZ", in which the letter of qubit 0 comes first.
func pauli(text string) impl.Pauli {
	letters := strings.TrimLeft(text, "+-i")
	p := impl.Pauli{Phase: slices.Index(phaseTexts(), strings.TrimSuffix(text, letters))}
	for q, letter := range letters {
		if letter == 'X' || letter == 'Y' {
			p.X += []int{1, 2, 4, 8, 16}[q]
		}
		if letter == 'Z' || letter == 'Y' {
			p.Z += []int{1, 2, 4, 8, 16}[q]
		}
	}
	return p
}

// phaseTexts holds the texts of the powers of i.
func phaseTexts() []string { return []string{"+", "+i", "-", "-i"} }

// letterTexts lists all words of n letters.
func letterTexts(n int) []string {
	words := []string{""}
	for range n {
		var longer []string
		for _, word := range words {
			longer = append(longer, word+"I", word+"X", word+"Y", word+"Z")
		}
		words = longer
	}
	return words
}

// pauliTexts lists the texts of all operators on n qubits.
func pauliTexts(n int) []string {
	var list []string
	for _, phase := range phaseTexts() {
		for _, letters := range letterTexts(n) {
			list = append(list, phase+letters)
		}
	}
	return list
}

// somePauliTexts are all operators on one and two qubits, and samples of those on more.
func somePauliTexts(n int) []string {
	list := pauliTexts(n)
	if n <= 2 {
		return list
	}
	d, some := dice(n), []string{}
	for range 40 {
		some = append(some, list[d.below(len(list))])
	}
	return append(some, "+"+strings.Repeat("Y", n), "-i"+strings.Repeat("X", n), "-"+strings.Repeat("I", n))
}

// letterCell returns the cell of the matrix of a letter as a power of i, or false if the cell is 0.
func letterCell(letter rune, row int, col int) (int, bool) {
	switch letter {
	case 'X':
		return 0, row != col
	case 'Y':
		return 3 - 2*row, row != col // -i in the first row, i in the second
	case 'Z':
		return 2 * row, row == col
	}
	return 0, row == col
}

// tensorMatrix finds the matrix of an operator cell by cell as a tensor product.
func tensorMatrix(text string) impl.Matrix {
	letters := strings.TrimLeft(text, "+-i")
	n := len(letters)
	m := filled(1<<n, 1<<n, whole(0))
	for at := range m.Cells {
		power, nonzero := slices.Index(phaseTexts(), strings.TrimSuffix(text, letters)), true
		for q, letter := range letters {
			factor, ok := letterCell(letter, bitOf(n, at/m.Cols, q), bitOf(n, at%m.Cols, q))
			power, nonzero = power+factor, nonzero && ok
		}
		if nonzero {
			m.Cells[at] = powerOfOmega(2 * power % 8)
		}
	}
	return m
}

func checkPauli(t *testing.T, what string, got impl.Pauli, ok bool, want impl.Pauli) {
	t.Helper()
	if !ok || got != want {
		t.Errorf("%s: got %v, %v, want %v", what, got, ok, want)
	}
}

// checkNoPauli checks that a call failed and that its result is zero.
func checkNoPauli(t *testing.T, what string, got impl.Pauli, ok bool) {
	t.Helper()
	if ok || got != (impl.Pauli{}) {
		t.Errorf("%s: got %v, %v, want failure", what, got, ok)
	}
}

func checkText(t *testing.T, what string, got string, ok bool, want string, succeeds bool) {
	t.Helper()
	if got != want || ok != succeeds {
		t.Errorf("%s: got %q, %v, want %q, %v", what, got, ok, want, succeeds)
	}
}

func TestPauliExamples(t *testing.T) {
	got, ok := impl.MulPauli(1, impl.Pauli{X: 1}, impl.Pauli{Z: 1})
	checkPauli(t, "X Z", got, ok, impl.Pauli{Phase: 3, X: 1, Z: 1})
	commute, ok := impl.Commute(1, impl.Pauli{X: 1}, impl.Pauli{Z: 1})
	checkAnswer(t, "Commute of X and Z", commute, ok, false, true)
	text, ok := impl.FormatPauli(2, impl.Pauli{X: 1, Z: 2})
	checkText(t, "FormatPauli", text, ok, "+XZ", true)
}

// TestPauliTextsInFull also has the bits of each qubit.
func TestPauliTextsInFull(t *testing.T) {
	cases := []struct {
		n    int
		p    impl.Pauli
		want string
	}{
		{1, impl.Pauli{}, "+I"},
		{1, impl.Pauli{Phase: 1, X: 1}, "+iX"},
		{1, impl.Pauli{Phase: 2, X: 1, Z: 1}, "-Y"},
		{1, impl.Pauli{Phase: 3, Z: 1}, "-iZ"},
		{2, impl.Pauli{Phase: 3, X: 1, Z: 2}, "-iXZ"},
		{2, impl.Pauli{X: 2, Z: 1}, "+ZX"},
		{3, impl.Pauli{Phase: 2, X: 4, Z: 6}, "-IZY"},
		{4, impl.Pauli{Phase: 1, X: 8, Z: 1}, "+iZIIX"},
		{5, impl.Pauli{X: 1}, "+XIIII"},
		{5, impl.Pauli{X: 2}, "+IXIII"},
		{5, impl.Pauli{X: 4, Z: 4}, "+IIYII"},
		{5, impl.Pauli{Z: 8}, "+IIIZI"},
		{5, impl.Pauli{Z: 16}, "+IIIIZ"},
		{5, impl.Pauli{Phase: 3, X: 31, Z: 31}, "-iYYYYY"},
		{5, impl.Pauli{Phase: 2}, "-IIIII"},
		{5, impl.Pauli{Phase: 1, X: 0b10011, Z: 0b01010}, "+iXYIZX"},
	}
	for _, c := range cases {
		got, ok := impl.FormatPauli(c.n, c.p)
		checkText(t, "FormatPauli", got, ok, c.want, true)
		checkPauli(t, "the operator of "+c.want, pauli(c.want), true, c.p)
	}
}

// TestPauliTextsOfAll formats every operator of every number of qubits.
func TestPauliTextsOfAll(t *testing.T) {
	for n := 1; n <= maxQubits; n++ {
		seen := map[impl.Pauli]bool{}
		for _, text := range pauliTexts(n) {
			p := pauli(text)
			got, ok := impl.FormatPauli(n, p)
			checkText(t, "FormatPauli", got, ok, text, true)
			if !impl.IsValidPauli(n, p) || seen[p] {
				t.Error("not valid, or twice:", n, p)
			}
			seen[p] = true
		}
		if len(seen) != 4<<(2*n) {
			t.Error("number of operators on", n, "qubits:", len(seen))
		}
	}
}

// TestPauliProductsOfLetters has the multiplication table of the letters.
func TestPauliProductsOfLetters(t *testing.T) {
	table := map[string]string{
		"II": "+I", "IX": "+X", "IY": "+Y", "IZ": "+Z",
		"XI": "+X", "XX": "+I", "XY": "+iZ", "XZ": "-iY",
		"YI": "+Y", "YX": "-iZ", "YY": "+I", "YZ": "+iX",
		"ZI": "+Z", "ZX": "+iY", "ZY": "-iX", "ZZ": "+I",
	}
	for pair, want := range table {
		for first, front := range phaseTexts() {
			for second, behind := range phaseTexts() {
				product := pauli(want)
				product.Phase = (product.Phase + first + second) % 4
				got, ok := impl.MulPauli(1, pauli(front+pair[:1]), pauli(behind+pair[1:]))
				checkPauli(t, "MulPauli of "+front+pair[:1]+" and "+behind+pair[1:], got, ok, product)
			}
		}
	}
}

func TestPauliProductsInFull(t *testing.T) {
	cases := []struct{ a, b, want string }{
		{"+XX", "+ZZ", "-YY"},
		{"+ZZ", "+XX", "-YY"},
		{"+XZ", "+ZX", "+YY"},
		{"+XI", "+IZ", "+XZ"},
		{"+XI", "+ZI", "-iYI"},
		{"+IX", "+IZ", "-iIY"},
		{"-iXY", "+iYX", "+ZZ"},
		{"-XY", "+YX", "-ZZ"},
		{"+XYZ", "+YZX", "-iZXY"},
		{"+YZX", "+XYZ", "+iZXY"},
		{"+iXYZ", "+iXYZ", "-III"},
		{"-XIZI", "+IYIY", "-XYZY"},
		{"+XYZIX", "+XYZIX", "+IIIII"},
		{"+XXXXX", "+ZZZZZ", "-iYYYYY"},
		{"+ZZZZZ", "+XXXXX", "+iYYYYY"},
		{"+XXXXI", "+ZZZZI", "+YYYYI"},
		{"-iXXXII", "-iZZZII", "-iYYYII"},
	}
	for _, c := range cases {
		got, ok := impl.MulPauli(len(strings.TrimLeft(c.a, "+-i")), pauli(c.a), pauli(c.b))
		checkPauli(t, "MulPauli of "+c.a+" and "+c.b, got, ok, pauli(c.want))
	}
}

func TestCommuteInFull(t *testing.T) {
	cases := []struct {
		a, b string
		want bool
	}{
		{"+X", "+X", true}, {"+X", "-iI", true}, {"+X", "+Y", false}, {"+Y", "+Z", false}, {"+Z", "+X", false},
		{"+iX", "-Y", false}, {"+iX", "-X", true}, {"+XI", "+IZ", true}, {"+XX", "+ZZ", true}, {"+XX", "+ZI", false},
		{"+XY", "+YX", true}, {"+XY", "+YY", false}, {"+XYZ", "+YZX", false}, {"+XYZ", "+YZI", true}, {"+XYZ", "+III", true},
		{"+XXXX", "+ZZZZ", true}, {"+XXXX", "+ZZZI", false}, {"+XXXXX", "+ZZZZZ", false}, {"+YYYYY", "+YYYYY", true},
		{"+IIIIX", "+IIIIZ", false}, {"+XIIII", "+IIIIZ", true}, {"-iXYZXY", "+iYZXIY", false},
	}
	for _, c := range cases {
		n := len(strings.TrimLeft(c.a, "+-i"))
		got, ok := impl.Commute(n, pauli(c.a), pauli(c.b))
		checkAnswer(t, "Commute of "+c.a+" and "+c.b, got, ok, c.want, true)
		got, ok = impl.Commute(n, pauli(c.b), pauli(c.a))
		checkAnswer(t, "Commute of "+c.b+" and "+c.a, got, ok, c.want, true)
	}
}

func TestPauliMatricesInFull(t *testing.T) {
	cases := []struct {
		text string
		want impl.Matrix
	}{
		{"+I", identity(2)},
		{"+X", permutation(1, 0)},
		{"+Y", matrix(2, 2, whole(0), minusI, plusI, whole(0))},
		{"+Z", phases(0, 4)},
		{"+iI", phases(2, 2)},
		{"-X", wholeMatrix(2, 2, 0, -1, -1, 0)},
		{"-iY", wholeMatrix(2, 2, 0, -1, 1, 0)},
		{"-iZ", phases(6, 2)},
		{"+XI", permutation(2, 3, 0, 1)},
		{"+IX", permutation(1, 0, 3, 2)},
		{"+ZI", phases(0, 0, 4, 4)},
		{"+IZ", phases(0, 4, 0, 4)},
		{"+XZ", wholeMatrix(4, 4, 0, 0, 1, 0, 0, 0, 0, -1, 1, 0, 0, 0, 0, -1, 0, 0)},
		{"+YY", wholeMatrix(4, 4, 0, 0, 0, -1, 0, 0, 1, 0, 0, 1, 0, 0, -1, 0, 0, 0)},
		{"+XII", permutation(4, 5, 6, 7, 0, 1, 2, 3)},
		{"-IIZ", phases(4, 0, 4, 0, 4, 0, 4, 0)},
		{"+iIZX", matrix(8, 8, slices.Concat(
			[]impl.Dyadic{{}, plusI}, repeated(whole(0), 6), []impl.Dyadic{plusI}, repeated(whole(0), 10),
			[]impl.Dyadic{minusI}, repeated(whole(0), 6), []impl.Dyadic{minusI}, repeated(whole(0), 10),
			[]impl.Dyadic{plusI}, repeated(whole(0), 6), []impl.Dyadic{plusI}, repeated(whole(0), 10),
			[]impl.Dyadic{minusI}, repeated(whole(0), 6), []impl.Dyadic{minusI, {}})...)},
	}
	for _, c := range cases {
		got, ok := impl.PauliMatrix(len(strings.TrimLeft(c.text, "+-i")), pauli(c.text))
		checkMatrix(t, "PauliMatrix of "+c.text, got, ok, c.want)
		checkMatrix(t, "the tensor product of "+c.text, tensorMatrix(c.text), true, c.want)
	}
}

// TestPauliMatricesAsTensorProducts has all operators.
func TestPauliMatricesAsTensorProducts(t *testing.T) {
	for n := 1; n <= maxQubits; n++ {
		for _, text := range pauliTexts(n) {
			got, ok := impl.PauliMatrix(n, pauli(text))
			checkMatrix(t, "PauliMatrix of "+text, got, ok, tensorMatrix(text))
		}
		if t.Failed() {
			return // The matrices on many qubits would be too much to print.
		}
	}
}

// TestPauliMatricesOfOneLetter has the matrix of the gate with the same name on each qubit.
func TestPauliMatricesOfOneLetter(t *testing.T) {
	for n := 1; n <= maxQubits; n++ {
		for q := range n {
			for kind, p := range map[int]impl.Pauli{impl.GtX: {X: 1 << q}, impl.GtY: {X: 1 << q, Z: 1 << q}, impl.GtZ: {Z: 1 << q}} {
				got, ok := impl.PauliMatrix(n, p)
				checkMatrix(t, "PauliMatrix of one letter", got, ok, placedMatrix(n, gate(kind, q, 0)))
			}
		}
	}
}
