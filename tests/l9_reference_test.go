package tests

import (
	"slices"
	"testing"

	"loop.example/g00864/impl"
)

// columnOf returns the cells of a column of a matrix of dimension 3.
func columnOf(cells []impl.Dyadic, j int) []impl.Dyadic {
	return []impl.Dyadic{cells[j], cells[3+j], cells[6+j]}
}

// turnedOver returns the cells of the transpose.
func turnedOver(cells []impl.Dyadic) []impl.Dyadic {
	return slices.Concat(columnOf(cells, 0), columnOf(cells, 1), columnOf(cells, 2))
}

// referenceCells multiplies matrices of dimension 3 with numerators of any size.
func referenceCells(a []impl.Dyadic, b []impl.Dyadic) ([]impl.Dyadic, bool) {
	product, ok := referenceMatrix(3, 3, func(row int, col int) (impl.Dyadic, bool) {
		return referenceDot(a[3*row:3*row+3], columnOf(b, col))
	})
	return product.Cells, ok
}

// referenceCross returns x y - u v.
func referenceCross(x impl.Dyadic, y impl.Dyadic, u impl.Dyadic, v impl.Dyadic) (impl.Dyadic, bool) {
	left, fine := referenceProduct(fractionOf(x), fractionOf(y))
	right, good := referenceProduct(fractionOf(u), fractionOf(v))
	if !fine || !good {
		return impl.Dyadic{}, false
	}
	return referenceSum(fractionOf(left), fractionOf(right), -1)
}

// referenceDeterminant is that of rows a b c, d e f, g h i, computed as a(ei - fh) - b(di - fg) + c(dh - eg).
func referenceDeterminant(m []impl.Dyadic) (impl.Dyadic, bool) {
	var sum impl.Dyadic
	for j, columns := range [][2]int{{1, 2}, {0, 2}, {0, 1}} {
		left, right := columns[0], columns[1]
		minor, ok := referenceCross(m[3+left], m[6+right], m[3+right], m[6+left])
		if !ok {
			return impl.Dyadic{}, false
		}
		product, ok := referenceProduct(fractionOf(m[j]), fractionOf(minor))
		if !ok {
			return impl.Dyadic{}, false
		}
		if sum, ok = referenceSum(fractionOf(sum), fractionOf(product), []int64{1, -1, 1}[j]); !ok {
			return impl.Dyadic{}, false
		}
	}
	return sum, true
}

// faultOf names the first condition of a valid Bloch matrix that does not hold, and is empty if all of them do.
func faultOf(b impl.Bloch) string {
	if len(b.Cells) != 9 {
		return "count"
	}
	for _, x := range b.Cells {
		if !fractionOf(x).valid() {
			return "cell"
		}
		if x.Num.C != 0 || x.Num.B+x.Num.D != 0 {
			return "real"
		}
	}
	square, ok := referenceCells(b.Cells, turnedOver(b.Cells))
	if !ok {
		return "limit of a product"
	}
	if !slices.Equal(square, wholeMatrix(3, 3, 1, 0, 0, 0, 1, 0, 0, 0, 1).Cells) {
		return "inverse"
	}
	determinant, ok := referenceDeterminant(b.Cells)
	if !ok {
		return "limit of the determinant"
	}
	if determinant != whole(1) {
		return "determinant"
	}
	return ""
}

// referenceIsOneQubit multiplies a valid matrix with its adjoint.
func referenceIsOneQubit(m impl.Matrix) bool {
	if m.Rows != 2 || m.Cols != 2 {
		return false
	}
	adjoint, _ := referenceAdjoint(m)
	square, ok := referenceMul(m, adjoint)
	return ok && sameMatrix(square, identity(2))
}

// referenceBlochCell is one half of the trace of a product from left to right.
func referenceBlochCell(p impl.Matrix, m impl.Matrix, q impl.Matrix) (impl.Dyadic, bool) {
	adjoint, _ := referenceAdjoint(m)
	product := p
	for _, factor := range []impl.Matrix{m, q, adjoint} {
		longer, ok := referenceMul(product, factor)
		if !ok {
			return impl.Dyadic{}, false
		}
		product = longer
	}
	trace, ok := referenceSum(fractionOf(product.Cells[0]), fractionOf(product.Cells[3]), 1)
	if !ok {
		return impl.Dyadic{}, false
	}
	return referenceProduct(fractionOf(trace), fractionOf(dyadic(ring(1, 0, 0, 0), 2)))
}

func referenceBloch(m impl.Matrix) (impl.Bloch, bool) {
	if !referenceIsOneQubit(m) {
		return impl.Bloch{}, false
	}
	paulis := []impl.Matrix{kindMatrix(impl.GtX), kindMatrix(impl.GtY), kindMatrix(impl.GtZ)}
	cells, ok := referenceMatrix(3, 3, func(row int, col int) (impl.Dyadic, bool) {
		return referenceBlochCell(paulis[row], m, paulis[col])
	})
	return impl.Bloch{Cells: cells.Cells}, ok
}

// referenceParity multiplies each cell with the square root of 2 as often as the greatest exponent says.
func referenceParity(b impl.Bloch) string {
	greatest, text := 0, ""
	for _, x := range b.Cells {
		greatest = max(greatest, x.Exp)
	}
	for _, x := range b.Cells {
		num := exactOf(x.Num)
		for range greatest - x.Exp {
			num = num.timesRoot()
		}
		text += string(rune('0' + num[0].Bit(0)))
	}
	return text
}

func compareBloch(t *testing.T, name string, got impl.Bloch, ok bool, want impl.Bloch, succeeds bool) {
	t.Helper()
	if ok != succeeds || !sameBloch(got, want) {
		t.Errorf("%s: got %v, %v, want %v, %v", name, got, ok, want, succeeds)
	}
}

// limitWords have all numbers of T up to those for which even IsUnitary leaves the limits. The words with the listed seeds stand for one-qubit operators for which only BlochOf leaves them.
func limitWords() []string {
	var list []string
	for count := range 63 {
		list = append(list, normalWord(count, 0), normalWord(count, 1), normalWord(count, 2))
	}
	for seed := range 40 {
		list = append(list, normalWord(57, 400+seed), normalWord(58, 400+seed), normalWord(59, 400+seed))
	}
	for _, seed := range []int{32, 264, 374, 886} {
		list = append(list, normalWord(58, seed))
	}
	for _, seed := range []int{321, 329, 342, 522, 542} {
		list = append(list, normalWord(59, seed))
	}
	return list
}

func TestBlochReferenceOfOperators(t *testing.T) {
	fine, failed, none := 0, 0, 0
	for _, word := range limitWords() {
		m := letterOperator(t, word)
		is := referenceIsOneQubit(m)
		if got := impl.IsOneQubit(m); got != is {
			t.Error("IsOneQubit:", got, word)
		}
		want, succeeds := referenceBloch(m)
		got, ok := impl.BlochOf(m)
		compareBloch(t, "BlochOf "+word, got, ok, want, succeeds)
		switch {
		case succeeds:
			fine++
		case is:
			failed++
		default:
			none++
		}
	}
	if fine < 100 || failed < 9 || none < 20 {
		t.Error("the cases are not mixed:", fine, failed, none)
	}
}

// checkSingle compares every function of one Bloch matrix, and returns the fault.
func checkSingle(t *testing.T, b impl.Bloch) string {
	t.Helper()
	reason := faultOf(b)
	valid := reason == ""
	if got := impl.IsValidBloch(b); got != valid {
		t.Errorf("IsValidBloch of %v: got %v, want the fault %q", b, got, reason)
	}
	if !valid {
		checkNotBloch(t, b)
		return reason
	}
	transpose, ok := impl.TransposeBloch(b)
	checkBloch(t, "TransposeBloch", transpose, ok, bloch(turnedOver(b.Cells)...))
	greatest := 0
	for _, x := range b.Cells {
		greatest = max(greatest, x.Exp)
	}
	exp, ok := impl.BlochExp(b)
	checkNumber(t, "BlochExp", exp, ok, greatest)
	parity, ok := impl.ParityOf(b)
	checkText(t, "ParityOf", parity, ok, referenceParity(b), true)
	_, ok = impl.CliffordIndex(b)
	if ok != (greatest == 0) {
		t.Error("CliffordIndex of", b, "is", ok)
	}
	return reason
}

// operatorBloch returns the Bloch matrix of a word, which need not be valid.
func operatorBloch(t *testing.T, word string) impl.Bloch {
	t.Helper()
	b, ok := impl.BlochOf(letterOperator(t, word))
	if !ok {
		t.Error("no Bloch matrix:", word)
	}
	return b
}

// TestBlochReferenceOfValidity has Bloch matrices of words up to and beyond the exponent 30, beyond which no square is valid.
func TestBlochReferenceOfValidity(t *testing.T) {
	faults, transposes := map[string]int{}, 0
	for count := range 45 {
		seeds := 4
		if count == 30 {
			seeds = 150
		}
		for seed := range seeds {
			b := operatorBloch(t, normalWord(count, seed))
			reason := checkSingle(t, b)
			faults[reason]++
			other := checkSingle(t, bloch(turnedOver(b.Cells)...))
			if count == 30 && (reason == "") != (other == "") {
				transposes++
			}
			if (count < 30 && reason != "") || (count > 30 && reason != "limit of a product") {
				t.Errorf("the matrix of %d T has the fault %q", count, reason)
			}
		}
	}
	if len(faults) != 2 || faults[""] < 130 || faults["limit of a product"] < 70 || transposes < 5 {
		t.Error("the cases are not mixed:", faults, transposes)
	}
}

// TestBlochReferenceOfChanges changes cells of valid matrices in every place.
func TestBlochReferenceOfChanges(t *testing.T) {
	faults := map[string]int{}
	for _, word := range []string{"", "S", "T", "THT", normalWord(9, 1), normalWord(28, 2)} {
		b := letterBloch(t, word)
		for k, x := range b.Cells {
			for _, change := range []impl.Dyadic{
				dyadic(ring(-x.Num.A, -x.Num.B, 0, -x.Num.D), x.Exp), dyadic(ring(x.Num.A, x.Num.B, 1, x.Num.D), x.Exp), dyadic(ring(x.Num.A, x.Num.B, 0, x.Num.D+2), x.Exp),
				dyadic(x.Num, x.Exp+1), dyadic(x.Num, x.Exp-1), dyadic(ring(x.Num.A+1, x.Num.B, 0, x.Num.D), x.Exp), whole(0), whole(1), whole(2), rootHalf, omega, plusI,
			} {
				changed := slices.Clone(b.Cells)
				changed[k] = change
				faults[checkSingle(t, bloch(changed...))]++
			}
			swapped := slices.Clone(b.Cells)
			swapped[k], swapped[(k+3)%9] = swapped[(k+3)%9], swapped[k]
			faults[checkSingle(t, bloch(swapped...))]++
		}
		for j := range 3 {
			columns := turnedOver(b.Cells)
			copy(columns[3*j:], turnedOver(b.Cells)[3*((j+1)%3):3*((j+1)%3)+3])
			copy(columns[3*((j+1)%3):], turnedOver(b.Cells)[3*j:3*j+3])
			faults[checkSingle(t, bloch(turnedOver(columns)...))]++
			faults[checkSingle(t, bloch(columns...))]++
		}
	}
	for _, reason := range []string{"", "cell", "real", "inverse", "determinant"} {
		if faults[reason] < 5 {
			t.Errorf("the fault %q is rare: %v", reason, faults)
		}
	}
}

// productFactors are valid Bloch matrices, most of them with the exponent 30, at which some sums of products are beyond a limit.
func productFactors(t *testing.T) []impl.Bloch {
	var list []impl.Bloch
	for _, count := range []int{0, 1, 2, 7, 14, 15, 16, 29} {
		list = append(list, operatorBloch(t, normalWord(count, 5)))
	}
	for seed := 0; len(list) < 50; seed++ {
		if b := operatorBloch(t, normalWord(30, seed)); faultOf(b) == "" {
			list = append(list, b)
		}
	}
	return list
}

func TestBlochReferenceOfProducts(t *testing.T) {
	fine, failed, beyond := 0, 0, 0
	list := productFactors(t)
	for _, a := range list {
		for _, b := range list {
			want, succeeds := referenceCells(a.Cells, b.Cells)
			got, ok := impl.MulBloch(a, b)
			compareBloch(t, "MulBloch", got, ok, bloch(want...), succeeds)
			switch {
			case !succeeds:
				failed++
			case faultOf(got) != "":
				beyond++
			default:
				fine++
			}
		}
	}
	if fine < 40 || failed < 8 || beyond < 40 {
		t.Error("the cases are not mixed:", fine, failed, beyond)
	}
}
