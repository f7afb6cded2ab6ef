package tests

import (
	"math/big"
	"testing"

	"loop.example/g00864/impl"
)

// signOfReal finds the sign of u + v sqrt(2) from the integer part of |v| sqrt(2).
func signOfReal(u int, v int) int {
	whole := new(big.Int).Mul(big.NewInt(int64(v)), big.NewInt(int64(v)))
	whole.Sqrt(whole.Lsh(whole, 1))
	n := big.NewInt(int64(u))
	switch {
	case v == 0:
		return n.Sign()
	case v > 0: // -v sqrt(2) is between -whole - 1 and -whole
		if n.Cmp(whole.Neg(whole)) >= 0 {
			return 1
		}
	default: // -v sqrt(2) is between whole and whole + 1
		if n.Cmp(whole) > 0 {
			return 1
		}
	}
	return -1
}

// fraction is a numerator of any size over a power of the square root of 2.
type fraction struct {
	num exact
	exp int
}

func fractionOf(x impl.Dyadic) fraction { return fraction{exactOf(x.Num), x.Exp} }

func (e exact) timesRoot() exact {
	return exact{e.combine(2, -4), e.combine(1, 3), e.combine(2, 4), e.combine(3, -1)}
}

func (e exact) isZero() bool {
	return e[0].Sign() == 0 && e[1].Sign() == 0 && e[2].Sign() == 0 && e[3].Sign() == 0
}

// lower divides numerator and denominator by the square root of 2 as often as possible.
func (f fraction) lower() fraction {
	for f.exp > 0 {
		half, whole := f.num.timesRoot().over(big.NewInt(2))
		if !whole {
			break
		}
		f = fraction{half, f.exp - 1}
	}
	return f
}

func (f fraction) valid() bool {
	return f.num.valid() && f.exp >= 0 && f.exp <= maxExp && f.lower().exp == f.exp
}

// dyadic checks the limits before the reduction, as the document requires.
func (f fraction) dyadic() (impl.Dyadic, bool) {
	if !f.num.valid() || f.exp < 0 || f.exp > maxExp {
		return impl.Dyadic{}, false
	}
	f = f.lower()
	num, ok := f.num.ring()
	return impl.Dyadic{Num: num, Exp: f.exp}, ok
}

// raised reports whether all numerators on the way to the exponent are valid.
func (f fraction) raised(exp int) (exact, bool) {
	num, ok := f.num, true
	for range exp - f.exp {
		num = num.timesRoot()
		ok = ok && num.valid()
	}
	return num, ok
}

func referenceSum(f fraction, g fraction, sign int64) (impl.Dyadic, bool) {
	if !f.valid() || !g.valid() {
		return impl.Dyadic{}, false
	}
	exp := max(f.exp, g.exp)
	left, fine := f.raised(exp)
	right, good := g.raised(exp)
	if !fine || !good {
		return impl.Dyadic{}, false
	}
	return fraction{left.plus(right, sign), exp}.dyadic()
}

func referenceProduct(f fraction, g fraction) (impl.Dyadic, bool) {
	if !f.valid() || !g.valid() {
		return impl.Dyadic{}, false
	}
	return fraction{f.num.times(g.num), f.exp + g.exp}.dyadic()
}

func (f fraction) conjugate() fraction { return fraction{f.num.conjugate(), f.exp} }

func referenceOrder(f fraction, g fraction) (int, bool) {
	left, fine := referenceProduct(f, f.conjugate())
	right, good := referenceProduct(g, g.conjugate())
	if !fine || !good {
		return 0, false
	}
	difference, ok := referenceSum(fractionOf(left), fractionOf(right), -1)
	if !ok {
		return 0, false
	}
	return signOfReal(difference.Num.A, difference.Num.B), true
}

func compareDyadic(t *testing.T, name string, got impl.Dyadic, ok bool, want impl.Dyadic, succeeds bool, args ...any) {
	t.Helper()
	if got != want || ok != succeeds {
		t.Errorf("%s of %v: got %v, %v, want %v, %v", name, args, got, ok, want, succeeds)
	}
}

func TestDyadicReferenceOfNumerators(t *testing.T) {
	for i, num := range append(tuples(edgeCoefs()), samples(5000, 40000)...) {
		for _, exp := range []int{0, 1, 2, 29, 31, maxExp, maxExp + 1, -1}[i%3:] {
			want, succeeds := fraction{exactOf(num), exp}.dyadic()
			got, ok := impl.DyadicOf(num, exp)
			compareDyadic(t, "DyadicOf", got, ok, want, succeeds, num, exp)
			if x := dyadic(num, exp); impl.IsValidDyadic(x) != (succeeds && want == x) {
				t.Error("IsValidDyadic of", x)
			}
		}
	}
}

// referenceValues has small and large lowest forms with all exponents, and numbers that are not valid.
func referenceValues() []impl.Dyadic {
	var nums []impl.Ring
	for _, a := range edgeCoefs() {
		nums = append(nums, ring(a, 0, 0, 0), ring(0, a, 0, 1), ring(1, a, 1, 0), ring(a, a, a, a))
	}
	for _, bound := range []int{2, 3, 8, 100, 15000, 31000, 100000000, maxCoef} {
		nums = append(nums, samples(24, bound)...)
	}
	exps := []int{0, 1, 2, 0, 5, 29, 1, 30, 31, 3, 58, 0, 59, 60, 2, 61}
	list := validDyadics()
	for i, num := range nums {
		exp := exps[i%len(exps)]
		list = append(list, dyadic(num, exp))
		if lowest, ok := (fraction{exactOf(num), exp}).dyadic(); ok {
			list = append(list, lowest)
		}
	}
	return list
}

func TestDyadicReferenceOfOneArgument(t *testing.T) {
	for _, x := range referenceValues() {
		f := fractionOf(x)
		var want impl.Dyadic
		succeeds := f.valid()
		if succeeds {
			want, _ = f.conjugate().dyadic()
		}
		got, ok := impl.ConjDyadic(x)
		compareDyadic(t, "ConjDyadic", got, ok, want, succeeds, x)
		want, succeeds = referenceProduct(f, f.conjugate())
		got, ok = impl.NormSquare(x)
		compareDyadic(t, "NormSquare", got, ok, want, succeeds, x)
		if got.Num.C != 0 || got.Num.D != -got.Num.B {
			t.Error("NormSquare is not real:", x, got)
		}
	}
}

func TestDyadicReferenceOfTwoArguments(t *testing.T) {
	list := referenceValues()
	for i, x := range list {
		for j, y := range list {
			if (i+j)%4 != 0 {
				continue
			}
			f, g := fractionOf(x), fractionOf(y)
			want, succeeds := referenceSum(f, g, 1)
			got, ok := impl.AddDyadic(x, y)
			compareDyadic(t, "AddDyadic", got, ok, want, succeeds, x, y)
			want, succeeds = referenceSum(f, g, -1)
			got, ok = impl.SubDyadic(x, y)
			compareDyadic(t, "SubDyadic", got, ok, want, succeeds, x, y)
			want, succeeds = referenceProduct(f, g)
			got, ok = impl.MulDyadic(x, y)
			compareDyadic(t, "MulDyadic", got, ok, want, succeeds, x, y)
			wanted, succeeds := referenceOrder(f, g)
			if order, ok := impl.CompareAbs(x, y); order != wanted || ok != succeeds {
				t.Errorf("CompareAbs of %v, %v: got %d, %v, want %d, %v", x, y, order, ok, wanted, succeeds)
			}
		}
	}
}

func TestDyadicReferenceOfSigns(t *testing.T) {
	for _, x := range samples(20000, maxCoef) {
		// 985 / 1393 is nearly 1 / sqrt(2), so the second v makes u + v sqrt(2) small.
		for _, v := range []int{x.B, -x.A*985/1393 + x.C%3} {
			sign, ok := impl.RealSign(x.A, v)
			checkNumber(t, "RealSign", sign, ok, signOfReal(x.A, v))
		}
	}
	for v := maxCoef/2 - 500; v <= maxCoef/2+500; v++ {
		whole := new(big.Int).Mul(big.NewInt(int64(v)), big.NewInt(int64(v)))
		u := int(whole.Sqrt(whole.Lsh(whole, 1)).Int64())
		for _, n := range []int{u - 1, u, u + 1, u + 2} {
			sign, ok := impl.RealSign(n, -v)
			checkNumber(t, "RealSign", sign, ok, signOfReal(n, -v))
			sign, ok = impl.RealSign(-n, v)
			checkNumber(t, "RealSign", sign, ok, -signOfReal(n, -v))
		}
	}
}
