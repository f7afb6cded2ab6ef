package tests

import (
	"math"
	"slices"
	"testing"

	"loop.example/g00864/impl"
)

// checkNotBloch calls every function that has a Bloch matrix as an argument.
func checkNotBloch(t *testing.T, b impl.Bloch) {
	t.Helper()
	if impl.IsValidBloch(b) {
		t.Error("valid:", b)
	}
	transpose, ok := impl.TransposeBloch(b)
	checkNoBloch(t, "TransposeBloch", transpose, ok)
	exp, ok := impl.BlochExp(b)
	checkNoNumber(t, "BlochExp", exp, ok)
	parity, ok := impl.ParityOf(b)
	checkText(t, "ParityOf", parity, ok, "", false)
	index, ok := impl.CliffordIndex(b)
	checkNoNumber(t, "CliffordIndex", index, ok)
	for _, other := range []impl.Bloch{wholeBloch(1, 0, 0, 0, 1, 0, 0, 0, 1), blochText("h -h 0  h h 0  0 0 1"), b} {
		product, ok := impl.MulBloch(b, other)
		checkNoBloch(t, "MulBloch in front", product, ok)
		product, ok = impl.MulBloch(other, b)
		checkNoBloch(t, "MulBloch behind", product, ok)
	}
}

// wrongCounts have other numbers of cells, some of them with the missing ones behind the length.
func wrongCounts() []impl.Bloch {
	one := wholeMatrix(3, 3, 1, 0, 0, 0, 1, 0, 0, 0, 1).Cells
	list := []impl.Bloch{{}, {Cells: []impl.Dyadic{}}, bloch(append(slices.Clone(one), whole(0))...), bloch(append(slices.Clone(one), one...)...)}
	for count := range 9 {
		list = append(list, bloch(one[:count]...), bloch(one[:count:count]...))
	}
	return append(list, bloch(identity(4).Cells...), bloch(identity(2).Cells...), bloch(identity(32).Cells...), bloch(append(slices.Clone(one), one[:3]...)...))
}

// notReal have the product 1 with their transposes and the determinant 1, but cells that are not real.
func notReal() []impl.Bloch {
	root, three := dyadic(ring(0, 1, 0, -1), 0), whole(3)
	imaginary, negative := dyadic(ring(0, 2, 0, 2), 0), dyadic(ring(0, -2, 0, -2), 0)
	zero, one := whole(0), whole(1)
	return []impl.Bloch{
		bloch(root, plusI, zero, minusI, root, zero, zero, zero, one),
		bloch(one, zero, zero, zero, root, minusI, zero, plusI, root),
		bloch(three, imaginary, zero, negative, three, zero, zero, zero, one),
		bloch(three, zero, negative, zero, one, zero, imaginary, zero, three),
	}
}

// notInverse are real, but their products with their transposes are not 1; most of them have the determinant 1.
func notInverse() []impl.Bloch {
	great, small := dyadic(ring(1, 1, 0, -1), 0), dyadic(ring(-1, 1, 0, -1), 0)
	root, zero, one := dyadic(ring(0, 1, 0, -1), 0), whole(0), whole(1)
	return []impl.Bloch{
		wholeBloch(1, 1, 0, 0, 1, 0, 0, 0, 1), wholeBloch(1, 0, 0, 1, 1, 0, 0, 0, 1), wholeBloch(1, 0, 0, 0, 1, 0, 5, 0, 1), wholeBloch(2, 1, 0, 1, 1, 0, 0, 0, 1),
		wholeBloch(1, 0, 0, 1, 0, 0, 0, 0, 1), wholeBloch(1, 0, 0, 0, 1, 0, 0, 0, 0), wholeBloch(0, 0, 0, 0, 0, 0, 0, 0, 0), wholeBloch(1, 1, 1, 1, 1, 1, 1, 1, 1), wholeBloch(2, 0, 0, 0, 2, 0, 0, 0, 2),
		bloch(great, zero, zero, zero, small, zero, zero, zero, one), bloch(root, zero, zero, zero, rootHalf, zero, zero, zero, one), bloch(root, one, zero, one, root, zero, zero, zero, one),
		blochText("h h 0  h h 0  0 0 1"), blochText("h h 0  h -h 0  0 0 q"), blochText("q q h  -q -q h  h h 0"), blochText("q q h  -q -q h  1 0 0"),
	}
}

func TestBlochWithWrongCounts(t *testing.T) {
	for _, b := range wrongCounts() {
		checkNotBloch(t, b)
	}
}

func TestBlochWithInvalidCells(t *testing.T) {
	for k, x := range invalidDyadics() {
		for _, word := range []string{"", "THT"} {
			b := letterBloch(t, word)
			b.Cells[k%9] = x
			checkNotBloch(t, b)
		}
	}
	for place := range 9 {
		for _, x := range []impl.Dyadic{dyadic(ring(2, 0, 0, 0), 2), dyadic(ring(0, 1, 0, -1), 1), dyadic(impl.Ring{}, 1), dyadic(impl.Ring{}, -1), dyadic(impl.Ring{}, maxExp+1), whole(math.MinInt), dyadic(ring(0, math.MinInt, 0, math.MinInt), 0)} {
			b := letterBloch(t, "")
			b.Cells[place] = x
			checkNotBloch(t, b)
		}
	}
}

func TestBlochThatIsNotReal(t *testing.T) {
	for _, b := range notReal() {
		square, ok := referenceCells(b.Cells, turnedOver(b.Cells))
		determinant, fine := referenceDeterminant(b.Cells)
		if !ok || !fine || determinant != whole(1) || !slices.Equal(square, letterBloch(t, "").Cells) || faultOf(b) != "real" {
			t.Error("more than one fault:", b)
		}
		checkNotBloch(t, b)
	}
	for place := range 9 {
		for k := range 8 {
			for _, word := range []string{"", "T", "THT"} {
				b := letterBloch(t, word)
				b.Cells[place] = powerOfOmega(k)
				checkSingle(t, b)
			}
		}
	}
}

func TestBlochWithoutInverse(t *testing.T) {
	for _, b := range notInverse() {
		if faultOf(b) != "inverse" {
			t.Error("the fault is", faultOf(b))
		}
		checkNotBloch(t, b)
	}
}

// TestBlochWithNegativeDeterminant negates valid matrices, or one row or column of them, or exchanges two.
func TestBlochWithNegativeDeterminant(t *testing.T) {
	for _, word := range append(oneQubitWords(), normalWord(29, 1)) {
		b := letterBloch(t, word)
		negated := slices.Clone(b.Cells)
		for k, x := range b.Cells {
			negated[k] = dyadic(ring(-x.Num.A, -x.Num.B, 0, -x.Num.D), x.Exp)
		}
		cases := []impl.Bloch{bloch(negated...)}
		for k := range 3 {
			rows, columns := slices.Clone(b.Cells), slices.Clone(b.Cells)
			for i := range 3 {
				rows[3*k+i], columns[3*i+k] = negated[3*k+i], negated[3*i+k]
			}
			cases = append(cases, bloch(rows...), bloch(columns...))
		}
		cases = append(cases, bloch(slices.Concat(b.Cells[3:6], b.Cells[:3], b.Cells[6:])...), bloch(slices.Concat(b.Cells[6:], b.Cells[3:6], b.Cells[:3])...))
		for _, other := range cases {
			if faultOf(other) != "determinant" {
				t.Error("the fault is", faultOf(other))
			}
			checkNotBloch(t, other)
		}
	}
}

// TestBlochBeyondTheLimits has Bloch matrices of operators for which the product with the transpose is beyond a limit.
func TestBlochBeyondTheLimits(t *testing.T) {
	for count := 31; count <= 56; count++ {
		b := operatorBloch(t, normalWord(count, 1))
		if faultOf(b) != "limit of a product" {
			t.Error("the fault is", faultOf(b))
		}
		checkNotBloch(t, b)
	}
	for _, b := range []impl.Bloch{
		wholeBloch(maxCoef, 0, 0, 0, 1, 0, 0, 0, 1), wholeBloch(1, 0, 0, 0, 1, 0, 31623, 0, 1), wholeBloch(31622, 31622, 0, 0, 1, 0, 0, 0, 1),
		bloch(dyadic(ring(1, 0, 0, 0), 31), whole(0), whole(0), whole(0), whole(1), whole(0), whole(0), whole(0), whole(1)),
		bloch(whole(1), whole(0), whole(0), whole(0), whole(1), whole(0), whole(0), whole(0), dyadic(ring(1, 0, 0, 0), maxExp)),
	} {
		if faultOf(b) != "limit of a product" {
			t.Error("the fault is", faultOf(b))
		}
		checkNotBloch(t, b)
	}
}

// TestProductBeyondTheLimits has two operators that have valid Bloch matrices, and a product that has a Bloch matrix, which is not valid.
func TestProductBeyondTheLimits(t *testing.T) {
	first, second := "T"+normalWord(19, 1)+"H", "HT"+normalWord(20, 2)
	product, ok := impl.MulBloch(letterBloch(t, second), letterBloch(t, first))
	if !ok {
		t.Error("no product:", first, second)
	}
	checkBloch(t, "MulBloch", product, ok, operatorBloch(t, first+second))
	checkNotBloch(t, product)
}

func TestOneQubitOfInvalidMatrices(t *testing.T) {
	list := append(invalidMatrices(), matrix(2, 2, identity(2).Cells[:3]...), matrix(2, 2, identity(4).Cells...))
	for _, x := range invalidDyadics() {
		list = append(list, matrix(2, 2, x, whole(0), whole(0), whole(1)), matrix(2, 2, whole(1), whole(0), whole(0), x), matrix(2, 2, whole(0), x, whole(1), whole(0)))
	}
	for _, m := range list {
		checkNotOneQubit(t, m)
	}
}

// TestOneQubitOfAnyInts has the least and greatest integers in each place.
func TestOneQubitOfAnyInts(t *testing.T) {
	wild := []int{math.MinInt, math.MinInt + 1, -maxCoef - 1, -maxCoef, -31623, -1, 0, 1, 2, 31, 60, 61, maxCoef, maxCoef + 1, 1 << 32, math.MaxInt - 1, math.MaxInt}
	for _, a := range wild {
		for _, b := range wild {
			for _, x := range []impl.Dyadic{dyadic(ring(a, b, 0, -b), 0), dyadic(ring(a, 0, b, 0), 1), dyadic(ring(1, a, 0, -a), b), dyadic(ring(a, a, a, a), b), dyadic(ring(0, a, 0, b), a)} {
				checkWildCell(t, x)
			}
			m := matrix(a, b, identity(2).Cells...)
			if is := a == 2 && b == 2; impl.IsOneQubit(m) != is {
				t.Error("IsOneQubit of dimensions", a, b)
			}
		}
		word, ok := impl.CliffordWord(a)
		checkText(t, "CliffordWord", word, ok, map[int]string{1: "H", 2: "S"}[a], a >= 0 && a < 24)
	}
}

// checkWildCell places a number in matrices of both kinds, of which those with a valid number are compared.
func checkWildCell(t *testing.T, x impl.Dyadic) {
	t.Helper()
	for place := range 4 {
		m := identity(2)
		m.Cells[place] = x
		b, ok := impl.BlochOf(m)
		if impl.IsValidMatrix(m) {
			want, succeeds := referenceBloch(m)
			compareBloch(t, "BlochOf", b, ok, want, succeeds)
		} else {
			checkNoBloch(t, "BlochOf", b, ok)
		}
		if impl.IsOneQubit(m) != ok {
			t.Error("IsOneQubit and BlochOf disagree:", m)
		}
		turn := wholeBloch(1, 0, 0, 0, 1, 0, 0, 0, 1)
		turn.Cells[2*place] = x
		checkSingle(t, turn)
	}
}
