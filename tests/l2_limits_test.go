package tests

import (
	"math"
	"testing"

	"loop.example/g00864/impl"
)

func invalidExps() []int {
	return []int{-1, -2, -maxExp, maxExp + 1, maxExp + 2, 2 * maxExp, 64, 256, 1 << 32, 1<<32 + 1, 1 << 62, -1 << 62, math.MaxInt, math.MinInt, math.MinInt + 1}
}

// reducibleNumerators are divisible by the square root of 2.
func reducibleNumerators() []impl.Ring {
	return []impl.Ring{
		{}, ring(2, 0, 0, 0), ring(0, 0, 0, -2), ring(1, 0, 1, 0), ring(0, 1, 0, -1), ring(-1, 1, 1, 1), ring(10, 7, -4, 3),
		ring(maxCoef, 0, 0, 0), ring(maxCoef, -maxCoef, maxCoef, -maxCoef), ring(maxCoef-1, 0, 1-maxCoef, 0),
	}
}

// invalidDyadics have invalid numerators or exponents, or are not in lowest form.
func invalidDyadics() []impl.Dyadic {
	var list []impl.Dyadic
	for _, x := range invalidRings() {
		list = append(list, dyadic(x, 0), dyadic(x, 1), dyadic(x, maxExp))
	}
	for _, exp := range invalidExps() {
		list = append(list, dyadic(impl.Ring{}, exp), dyadic(ring(1, 0, 0, 0), exp), dyadic(ring(2, 3, 5, -7), exp), dyadic(ring(math.MinInt, 0, 0, 0), exp))
	}
	for _, x := range reducibleNumerators() {
		list = append(list, dyadic(x, 1), dyadic(x, 2), dyadic(x, 30), dyadic(x, maxExp))
	}
	return list
}

// validDyadics are in lowest form, though some only just meet a limit.
func validDyadics() []impl.Dyadic {
	odd := []impl.Ring{
		ring(1, 0, 0, 0), ring(0, -1, 0, 0), ring(1, 1, 0, 0), ring(1, 1, 1, 0), ring(2, 3, 5, -7),
		ring(maxCoef, 0, maxCoef-1, 0), ring(-maxCoef, maxCoef, -maxCoef, 1-maxCoef), ring(1-maxCoef, 0, 0, 0),
	}
	var list []impl.Dyadic
	for _, x := range append(odd, reducibleNumerators()...) {
		list = append(list, dyadic(x, 0))
	}
	for _, x := range odd {
		list = append(list, dyadic(x, 1), dyadic(x, 30), dyadic(x, maxExp))
	}
	return list
}

func TestDyadicValidity(t *testing.T) {
	for _, x := range validDyadics() {
		if !impl.IsValidDyadic(x) {
			t.Error("not valid:", x)
		}
	}
	for _, x := range invalidDyadics() {
		if impl.IsValidDyadic(x) {
			t.Error("valid:", x)
		}
	}
}

func TestDyadicOfInvalidArguments(t *testing.T) {
	for _, x := range invalidRings() {
		for _, exp := range append(invalidExps(), 0, 1, 30, maxExp) {
			got, ok := impl.DyadicOf(x, exp)
			checkDyadicFails(t, "DyadicOf", got, ok)
		}
	}
	for _, exp := range invalidExps() {
		for _, x := range []impl.Ring{{}, ring(1, 0, 0, 0), ring(2, 0, 0, 0), ring(16, 0, 0, 0), ring(maxCoef, maxCoef, maxCoef, maxCoef)} {
			got, ok := impl.DyadicOf(x, exp)
			checkDyadicFails(t, "DyadicOf", got, ok)
		}
	}
}

func TestDyadicInvalidArguments(t *testing.T) {
	for _, x := range invalidDyadics() {
		for name, f := range dyadicUnaries() {
			got, ok := f(x)
			checkDyadicFails(t, name, got, ok)
		}
		k, ok := impl.PhaseOf(x)
		checkNoNumber(t, "PhaseOf", k, ok)
		if s, ok := impl.FormatDyadic(x); s != "" || ok {
			t.Errorf("FormatDyadic of %v: got %q, %v", x, s, ok)
		}
	}
}

func TestDyadicInvalidPairs(t *testing.T) {
	for i, x := range invalidDyadics() {
		for j, y := range append(validDyadics(), invalidDyadics()...) {
			if j >= len(validDyadics()) && (i+j)%7 != 0 {
				continue
			}
			for name, f := range dyadicBinaries() {
				got, ok := f(x, y)
				checkDyadicFails(t, name, got, ok)
				got, ok = f(y, x)
				checkDyadicFails(t, name, got, ok)
			}
			order, ok := impl.CompareAbs(x, y)
			checkNoNumber(t, "CompareAbs", order, ok)
			order, ok = impl.CompareAbs(y, x)
			checkNoNumber(t, "CompareAbs", order, ok)
		}
	}
}

func TestDyadicOfAtTheLimits(t *testing.T) {
	full := ring(maxCoef, -maxCoef, maxCoef, -maxCoef)
	got, ok := impl.DyadicOf(full, 0)
	checkDyadic(t, "nothing to reduce", got, ok, dyadic(full, 0))
	got, ok = impl.DyadicOf(full, 1)
	checkDyadic(t, "one step", got, ok, dyadic(ring(0, maxCoef, -maxCoef, 0), 0))
	// 10^9 is 2^9 times an odd number, and 1 - w is not divisible by the square root of 2.
	got, ok = impl.DyadicOf(full, maxExp)
	checkDyadic(t, "all steps", got, ok, dyadic(ring(0, 1953125, -1953125, 0), maxExp-19))
	odd := ring(maxCoef, -maxCoef, maxCoef-1, -maxCoef)
	got, ok = impl.DyadicOf(odd, maxExp)
	checkDyadic(t, "no step", got, ok, dyadic(odd, maxExp))
}

func TestDyadicSumsAtTheLimit(t *testing.T) {
	over := func(a, exp int) impl.Dyadic { return dyadic(ring(a, 0, 0, 0), exp) }
	got, ok := impl.AddDyadic(over(999999999, 0), over(1, 0))
	checkDyadic(t, "meets the limit", got, ok, over(maxCoef, 0))
	got, ok = impl.AddDyadic(over(maxCoef, 0), over(1, 0))
	checkDyadicFails(t, "exceeds the limit", got, ok)
	got, ok = impl.SubDyadic(over(-maxCoef, 0), over(1, 0))
	checkDyadicFails(t, "exceeds the limit", got, ok)
	got, ok = impl.SubDyadic(over(-999999999, 0), over(1, 0))
	checkDyadic(t, "meets the limit", got, ok, over(-maxCoef, 0))
	got, ok = impl.AddDyadic(over(999999999, 2), over(1, 2))
	checkDyadic(t, "meets the limit before the reduction", got, ok, over(maxCoef/2, 0))
	got, ok = impl.AddDyadic(over(999999999, 2), over(3, 2))
	checkDyadicFails(t, "exceeds the limit before the reduction", got, ok)
	got, ok = impl.SubDyadic(over(-999999999, 60), over(1, 60))
	checkDyadic(t, "meets the limit before the reduction", got, ok, over(-1953125, 42))
	got, ok = impl.SubDyadic(over(-999999999, 60), over(3, 60))
	checkDyadicFails(t, "exceeds the limit before the reduction", got, ok)
}

func TestDyadicRaisedNumeratorsAtTheLimit(t *testing.T) {
	const half = maxCoef / 2
	one := dyadic(ring(0, -1, 0, 0), 1)
	got, ok := impl.AddDyadic(dyadic(ring(half, 0, half, 0), 0), one)
	checkDyadic(t, "raised to the limit", got, ok, dyadic(ring(0, maxCoef-1, 0, 0), 1))
	// The sum's numerator would be valid, but the raised one is not.
	large := dyadic(ring(half+1, 0, half, 0), 0)
	for name, f := range map[string]dyadicBinary{"AddDyadic": impl.AddDyadic, "SubDyadic": impl.SubDyadic} {
		got, ok = f(large, one)
		checkDyadicFails(t, name, got, ok)
		got, ok = f(one, large)
		checkDyadicFails(t, name, got, ok)
	}
	got, ok = impl.AddDyadic(dyadic(ring(half, 0, half, 0), 0), dyadic(ring(0, 1, 0, 0), 1))
	checkDyadicFails(t, "sum exceeds the limit", got, ok)
	got, ok = impl.SubDyadic(dyadic(ring(0, 1, 0, 0), 1), dyadic(ring(half, 0, half, 0), 0))
	checkDyadic(t, "difference", got, ok, dyadic(ring(0, 1-maxCoef, 0, 0), 1))
	got, ok = impl.SubDyadic(one, dyadic(ring(half, 0, half, 0), 0))
	checkDyadicFails(t, "difference exceeds the limit", got, ok)
}

func TestDyadicManyStepsOfRaising(t *testing.T) {
	small := func(exp int) impl.Dyadic { return dyadic(ring(1, 0, 0, 0), exp) }
	got, ok := impl.AddDyadic(whole(1), small(58))
	checkDyadic(t, "58 steps", got, ok, dyadic(ring(1<<29+1, 0, 0, 0), 58))
	got, ok = impl.AddDyadic(small(59), whole(1))
	checkDyadic(t, "59 steps", got, ok, dyadic(ring(1, 1<<29, 0, -1<<29), 59))
	got, ok = impl.AddDyadic(small(1), small(60))
	checkDyadic(t, "59 steps", got, ok, dyadic(ring(1, 1<<29, 0, -1<<29), 60))
	got, ok = impl.AddDyadic(whole(1), small(60))
	checkDyadicFails(t, "60 steps", got, ok) // 2^30 exceeds MaxCoef
	got, ok = impl.SubDyadic(small(60), whole(1))
	checkDyadicFails(t, "60 steps", got, ok)
	got, ok = impl.AddDyadic(whole(3), small(58))
	checkDyadicFails(t, "58 steps", got, ok)
	got, ok = impl.AddDyadic(whole(maxCoef), small(1))
	checkDyadic(t, "1 step", got, ok, dyadic(ring(1, maxCoef, 0, -maxCoef), 1))
	got, ok = impl.AddDyadic(whole(maxCoef), small(2))
	checkDyadicFails(t, "2 steps", got, ok)
}

func TestDyadicProductsAtTheLimit(t *testing.T) {
	cases := []struct {
		x, y, want impl.Dyadic
		succeeds   bool
	}{
		{whole(32000), whole(31250), whole(maxCoef), true},
		{whole(32000), whole(-31250), whole(-maxCoef), true},
		{dyadic(ring(32000, 0, 0, 1), 0), dyadic(ring(31250, -1, 0, 0), 0), whole(0), false}, // 10^9 + 1
		{whole(2), dyadic(ring(maxCoef/2, 1, 0, 0), 2), dyadic(ring(maxCoef/2, 1, 0, 0), 0), true},
		{whole(512), dyadic(ring(1953125, 0, 0, 0), 2), whole(maxCoef / 2), true},
		{whole(2), dyadic(ring(maxCoef/2+1, 0, 0, 0), 2), whole(0), false},
		{whole(512), dyadic(ring(1953127, 0, 0, 0), 60), whole(0), false},
		{whole(-2), dyadic(ring(maxCoef/2+1, 0, 0, 0), 60), whole(0), false},
		{whole(maxCoef), dyadic(ring(0, 1, 0, 0), 60), dyadic(ring(0, 1953125, 0, 0), 42), true},
		{whole(1), dyadic(ring(maxCoef, 0, 1-maxCoef, 0), 60), dyadic(ring(maxCoef, 0, 1-maxCoef, 0), 60), true},
	}
	for _, c := range cases {
		got, ok := impl.MulDyadic(c.x, c.y)
		if c.succeeds {
			checkDyadic(t, "MulDyadic", got, ok, c.want)
		} else {
			checkDyadicFails(t, "MulDyadic", got, ok)
		}
		again, fine := impl.MulDyadic(c.y, c.x)
		if again != got || fine != ok {
			t.Error("MulDyadic, exchanged:", again, fine)
		}
	}
}

func TestDyadicExponentSums(t *testing.T) {
	one, root := ring(1, 0, 0, 0), ring(1, 1, 0, 0)
	for i := range maxExp + 1 {
		for j := range maxExp + 1 {
			got, ok := impl.MulDyadic(dyadic(one, i), dyadic(one, j))
			if i+j > maxExp {
				checkDyadicFails(t, "MulDyadic", got, ok)
			} else {
				checkDyadic(t, "MulDyadic", got, ok, dyadic(one, i+j))
			}
			// (1 + w)^2 is divisible by the square root of 2, but the sum of the exponents counts before the reduction.
			got, ok = impl.MulDyadic(dyadic(root, i), dyadic(root, j))
			if i+j > maxExp {
				checkDyadicFails(t, "MulDyadic", got, ok)
			} else if i+j > 0 {
				checkDyadic(t, "MulDyadic", got, ok, dyadic(ring(1, 1, 1, 0), i+j-1))
			}
		}
	}
}

func TestDyadicNormExponents(t *testing.T) {
	got, ok := impl.NormSquare(dyadic(ring(1, 1, 0, 0), 30))
	checkDyadic(t, "NormSquare", got, ok, dyadic(ring(1, 1, 0, -1), 59))
	got, ok = impl.NormSquare(dyadic(ring(1, 0, 0, 0), 30))
	checkDyadic(t, "NormSquare", got, ok, dyadic(ring(1, 0, 0, 0), 60))
	for exp := 31; exp <= maxExp; exp++ {
		for _, num := range []impl.Ring{ring(1, 0, 0, 0), ring(1, 1, 0, 0), ring(2, 3, 5, -7)} {
			x := dyadic(num, exp)
			got, ok = impl.NormSquare(x)
			checkDyadicFails(t, "NormSquare", got, ok)
			for _, y := range []impl.Dyadic{x, whole(1), whole(0)} {
				order, ok := impl.CompareAbs(x, y)
				checkNoNumber(t, "CompareAbs", order, ok)
				order, ok = impl.CompareAbs(y, x)
				checkNoNumber(t, "CompareAbs", order, ok)
			}
		}
	}
}

func TestDyadicNormsAtTheLimit(t *testing.T) {
	got, ok := impl.NormSquare(dyadic(ring(30000, 0, 10000, 0), 0))
	checkDyadic(t, "meets the limit", got, ok, whole(maxCoef))
	got, ok = impl.NormSquare(dyadic(ring(30000, 1, 10000, 0), 0))
	checkDyadicFails(t, "exceeds the limit", got, ok)
	got, ok = impl.NormSquare(dyadic(ring(15006, 12023, 8013, 23792), 1))
	checkDyadic(t, "999999998 before the reduction", got, ok, dyadic(ring(110379981, 499999999, 0, -499999999), 1))
	got, ok = impl.NormSquare(dyadic(ring(15017, 12023, 8028, 23780), 1))
	checkDyadicFails(t, "1000000002 before the reduction", got, ok)
	got, ok = impl.NormSquare(whole(31623))
	checkDyadicFails(t, "exceeds the limit", got, ok)
	got, ok = impl.NormSquare(dyadic(ring(maxCoef, maxCoef, maxCoef, 1-maxCoef), 1))
	checkDyadicFails(t, "exceeds the limit by far", got, ok)
}

func TestDyadicComparisonsAtTheLimit(t *testing.T) {
	small := func(exp int) impl.Dyadic { return dyadic(ring(1, 0, 0, 0), exp) }
	order, ok := impl.CompareAbs(small(30), small(30))
	checkNumber(t, "equal norms with the greatest exponent", order, ok, 0)
	order, ok = impl.CompareAbs(whole(1), small(29))
	checkNumber(t, "58 steps of raising", order, ok, 1)
	order, ok = impl.CompareAbs(small(29), whole(1))
	checkNumber(t, "58 steps of raising", order, ok, -1)
	order, ok = impl.CompareAbs(whole(1), dyadic(ring(1, 1, 0, 0), 30))
	checkNumber(t, "59 steps of raising", order, ok, 1)
	order, ok = impl.CompareAbs(whole(1), small(30))
	checkNoNumber(t, "60 steps of raising", order, ok)
	order, ok = impl.CompareAbs(small(30), whole(1))
	checkNoNumber(t, "60 steps of raising", order, ok)
	order, ok = impl.CompareAbs(small(30), whole(0))
	checkNumber(t, "zero is raised without limit", order, ok, 1)
	order, ok = impl.CompareAbs(dyadic(ring(30000, 0, 10000, 0), 0), dyadic(ring(10000, 0, 30000, 0), 0))
	checkNumber(t, "norms at the limit", order, ok, 0)
	order, ok = impl.CompareAbs(dyadic(ring(30000, 0, 10000, 0), 0), dyadic(ring(30000, 0, 9999, 0), 0))
	checkNumber(t, "norms near the limit", order, ok, 1)
	order, ok = impl.CompareAbs(dyadic(ring(30000, 1, 10000, 0), 0), whole(1))
	checkNoNumber(t, "a norm above the limit", order, ok)
}

func TestDyadicComparisonsWithLargeDifferences(t *testing.T) {
	plus, minus := dyadic(ring(15625, 16000, 0, -16000), 0), dyadic(ring(15625, -16000, 0, 16000), 0)
	order, ok := impl.CompareAbs(plus, minus)
	checkNumber(t, "the difference is 10^9 sqrt(2)", order, ok, 1)
	order, ok = impl.CompareAbs(minus, plus)
	checkNumber(t, "the difference is -10^9 sqrt(2)", order, ok, -1)
	more := dyadic(ring(15002, -15836, 1, 17493), 0)
	square, ok := impl.NormSquare(more)
	checkDyadic(t, "NormSquare", square, ok, dyadic(ring(781843950, -500000001, 0, 500000001), 0))
	order, ok = impl.CompareAbs(plus, more)
	checkNoNumber(t, "the difference exceeds the limit", order, ok)
	order, ok = impl.CompareAbs(more, plus)
	checkNoNumber(t, "the difference exceeds the limit", order, ok)
	order, ok = impl.CompareAbs(minus, more)
	checkNumber(t, "the difference is small", order, ok, signOfReal(756140625-781843950, 1))
}

func TestDyadicRealSignLimits(t *testing.T) {
	for _, u := range []int{maxCoef, -maxCoef, maxCoef - 1, 0, 1, -1} {
		for _, v := range []int{maxCoef, -maxCoef, 1 - maxCoef, 707106781, -707106781, 707106782, -707106782, 0, 1, -1} {
			sign, ok := impl.RealSign(u, v)
			checkNumber(t, "RealSign", sign, ok, signOfReal(u, v))
		}
	}
	near := []struct{ u, v, sign int }{
		{maxCoef, -707106781, 1}, {maxCoef, -707106782, -1}, {-maxCoef, 707106781, -1}, {-maxCoef, 707106782, 1},
		{maxCoef, -maxCoef, -1}, {-maxCoef, maxCoef, 1}, {maxCoef, maxCoef, 1}, {-maxCoef, -maxCoef, -1},
	}
	for _, c := range near {
		sign, ok := impl.RealSign(c.u, c.v)
		checkNumber(t, "RealSign", sign, ok, c.sign)
	}
	for _, a := range invalidCoefs() {
		for _, b := range append(invalidCoefs(), 0, 1, -1, maxCoef, -maxCoef) {
			sign, ok := impl.RealSign(a, b)
			checkNoNumber(t, "RealSign", sign, ok)
			sign, ok = impl.RealSign(b, a)
			checkNoNumber(t, "RealSign", sign, ok)
		}
	}
}

// TestDyadicRealSignOfConvergents takes the best approximations p / q of the square root of 2, for which p^2 - 2 q^2 is 1 or -1.
func TestDyadicRealSignOfConvergents(t *testing.T) {
	sign := -1
	for p, q := 1, 1; p <= maxCoef; p, q = p+2*q, p+q {
		got, ok := impl.RealSign(p, -q)
		checkNumber(t, "RealSign", got, ok, sign)
		got, ok = impl.RealSign(-p, q)
		checkNumber(t, "RealSign", got, ok, -sign)
		got, ok = impl.RealSign(p, q)
		checkNumber(t, "RealSign", got, ok, 1)
		got, ok = impl.RealSign(-p, -q)
		checkNumber(t, "RealSign", got, ok, -1)
		if p*p <= maxCoef {
			order, ok := impl.CompareAbs(whole(-p), dyadic(ring(0, q, 0, q), 0))
			checkNumber(t, "CompareAbs", order, ok, sign)
		}
		sign = -sign
	}
}
