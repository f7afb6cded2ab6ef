package tests

import (
	"testing"

	"loop.example/g00864/impl"
)

const maxExp = 60

func dyadic(num impl.Ring, exp int) impl.Dyadic { return impl.Dyadic{Num: num, Exp: exp} }

func whole(n int) impl.Dyadic { return dyadic(ring(n, 0, 0, 0), 0) }

type dyadicUnary func(impl.Dyadic) (impl.Dyadic, bool)
type dyadicBinary func(impl.Dyadic, impl.Dyadic) (impl.Dyadic, bool)

func dyadicUnaries() map[string]dyadicUnary {
	return map[string]dyadicUnary{"ConjDyadic": impl.ConjDyadic, "NormSquare": impl.NormSquare}
}

func dyadicBinaries() map[string]dyadicBinary {
	return map[string]dyadicBinary{"AddDyadic": impl.AddDyadic, "SubDyadic": impl.SubDyadic, "MulDyadic": impl.MulDyadic}
}

func checkDyadic(t *testing.T, what string, got impl.Dyadic, ok bool, want impl.Dyadic) {
	t.Helper()
	if !ok || got != want {
		t.Errorf("%s: got %v, %v, want %v", what, got, ok, want)
	}
}

func checkDyadicFails(t *testing.T, what string, got impl.Dyadic, ok bool) {
	t.Helper()
	if ok || got != (impl.Dyadic{}) {
		t.Errorf("%s: got %v, %v, want failure", what, got, ok)
	}
}

// checkNumber is for functions whose results are a number and a bool.
func checkNumber(t *testing.T, what string, got int, ok bool, want int) {
	t.Helper()
	if !ok || got != want {
		t.Errorf("%s: got %d, %v, want %d", what, got, ok, want)
	}
}

func checkNoNumber(t *testing.T, what string, got int, ok bool) {
	t.Helper()
	if ok || got != 0 {
		t.Errorf("%s: got %d, %v, want failure", what, got, ok)
	}
}

func TestDyadicMaxExp(t *testing.T) {
	if impl.MaxExp != maxExp {
		t.Error("MaxExp is", impl.MaxExp)
	}
}

func TestDyadicExample(t *testing.T) {
	got, ok := impl.DyadicOf(ring(2, 0, 0, 0), 2)
	checkDyadic(t, "2 / sqrt(2)^2", got, ok, whole(1))
	h := dyadic(ring(1, 0, 0, 0), 1)
	got, ok = impl.AddDyadic(h, h)
	checkDyadic(t, "sum", got, ok, dyadic(ring(0, 1, 0, -1), 0))
	got, ok = impl.MulDyadic(h, h)
	checkDyadic(t, "product", got, ok, dyadic(ring(1, 0, 0, 0), 2))
	got, ok = impl.NormSquare(h)
	checkDyadic(t, "norm", got, ok, dyadic(ring(1, 0, 0, 0), 2))
	k, ok := impl.PhaseOf(dyadic(ring(0, 0, 1, 0), 0))
	checkNumber(t, "phase", k, ok, 2)
	sign, ok := impl.RealSign(-3, 2)
	checkNumber(t, "sign", sign, ok, -1)
	order, ok := impl.CompareAbs(h, whole(1))
	checkNumber(t, "order", order, ok, -1)
	if s, ok := impl.FormatDyadic(h); s != "1 0 0 0/1" || !ok {
		t.Error("text:", s, ok)
	}
	got, ok = impl.ParseDyadic("1 0 0 0/1")
	checkDyadic(t, "parsed", got, ok, h)
}

func TestDyadicLowestForms(t *testing.T) {
	cases := []struct {
		num  impl.Ring
		exp  int
		want impl.Dyadic
	}{
		{ring(2, 3, 5, -7), 0, dyadic(ring(2, 3, 5, -7), 0)},
		{ring(2, 3, 5, -7), 60, dyadic(ring(2, 3, 5, -7), 60)},
		{ring(10, 7, -4, 3), 1, dyadic(ring(2, 3, 5, -7), 0)},
		{ring(10, 7, -4, 3), 0, dyadic(ring(10, 7, -4, 3), 0)},
		{ring(10, 7, -4, 3), 7, dyadic(ring(2, 3, 5, -7), 6)},
		{ring(2, 0, 0, 0), 1, dyadic(ring(0, 1, 0, -1), 0)},
		{ring(2, 0, 0, 0), 3, dyadic(ring(1, 0, 0, 0), 1)},
		{ring(16, 0, 0, 0), 8, whole(1)},
		{ring(16, 0, 0, 0), 7, dyadic(ring(0, 1, 0, -1), 0)},
		{ring(16, 0, 0, 0), 5, dyadic(ring(0, 2, 0, -2), 0)},
		{ring(16, 0, 0, 0), 11, dyadic(ring(1, 0, 0, 0), 3)},
		{ring(1, 0, 1, 0), 1, dyadic(ring(0, 1, 0, 0), 0)},
		{ring(0, 1, 0, -1), 1, whole(1)},
		{ring(1, 1, 0, 0), 2, dyadic(ring(1, 1, 0, 0), 2)},
		{ring(1, 2, 1, 0), 2, dyadic(ring(1, 1, 1, 0), 1)},
		{ring(1, 1, 1, 1), 1, dyadic(ring(0, 1, 1, 0), 0)},
		{ring(-12, 0, 0, 4), 9, dyadic(ring(-3, 0, 0, 1), 5)},
		{ring(1<<29, 0, 0, 0), 60, dyadic(ring(1, 0, 0, 0), 2)},
		{ring(0, 1<<29, 0, -1<<29), 60, dyadic(ring(1, 0, 0, 0), 1)},
		{ring(0, 1<<29, 0, -1<<29), 59, whole(1)},
	}
	for _, c := range cases {
		got, ok := impl.DyadicOf(c.num, c.exp)
		checkDyadic(t, "DyadicOf", got, ok, c.want)
	}
}

func TestDyadicLowestFormOfZero(t *testing.T) {
	for exp := range maxExp + 1 {
		got, ok := impl.DyadicOf(impl.Ring{}, exp)
		checkDyadic(t, "DyadicOf", got, ok, impl.Dyadic{})
		x, one := dyadic(ring(2, 3, 5, -7), exp), dyadic(ring(1, 0, 0, 0), exp)
		got, ok = impl.SubDyadic(x, x)
		checkDyadic(t, "difference", got, ok, impl.Dyadic{})
		got, ok = impl.AddDyadic(x, dyadic(ring(-2, -3, -5, 7), exp))
		checkDyadic(t, "sum", got, ok, impl.Dyadic{})
		got, ok = impl.MulDyadic(one, impl.Dyadic{})
		checkDyadic(t, "product", got, ok, impl.Dyadic{})
		got, ok = impl.AddDyadic(impl.Dyadic{}, x)
		checkDyadic(t, "sum with zero", got, ok, x)
		got, ok = impl.SubDyadic(x, impl.Dyadic{})
		checkDyadic(t, "difference from zero", got, ok, x)
		if impl.IsValidDyadic(dyadic(impl.Ring{}, exp)) != (exp == 0) {
			t.Error("IsValidDyadic of zero with exponent", exp)
		}
	}
}

func TestDyadicArithmeticOrdinary(t *testing.T) {
	x, y := dyadic(ring(2, 3, 5, -7), 2), dyadic(ring(1, -4, 6, 10), 5)
	cases := []struct {
		name string
		x, y impl.Dyadic
		want impl.Dyadic
	}{
		// sqrt(2)^3 x has the numerator {20, 14, -8, 6} over sqrt(2)^5.
		{"AddDyadic", x, y, dyadic(ring(21, 10, -2, 16), 5)},
		{"AddDyadic", y, x, dyadic(ring(21, 10, -2, 16), 5)},
		{"SubDyadic", x, y, dyadic(ring(19, 18, -14, -4), 5)},
		{"SubDyadic", y, x, dyadic(ring(-19, -18, 14, 4), 5)},
		{"MulDyadic", x, y, dyadic(ring(-86, -13, 75, 11), 7)},
		{"AddDyadic", dyadic(ring(1, 0, 0, 0), 4), dyadic(ring(3, 0, 0, 0), 4), whole(1)},
		{"AddDyadic", dyadic(ring(1, 0, 0, 0), 3), dyadic(ring(0, 0, 1, 0), 3), dyadic(ring(0, 1, 0, 0), 2)},
		{"SubDyadic", dyadic(ring(5, 0, 0, 0), 5), dyadic(ring(1, 0, 0, 0), 5), dyadic(ring(1, 0, 0, 0), 1)},
		{"SubDyadic", dyadic(ring(5, 1, 0, 0), 6), dyadic(ring(5, 0, 0, 0), 6), dyadic(ring(0, 1, 0, 0), 6)},
		{"MulDyadic", dyadic(ring(1, 1, 0, 0), 1), dyadic(ring(1, 1, 0, 0), 1), dyadic(ring(1, 1, 1, 0), 1)},
		{"MulDyadic", whole(8), dyadic(ring(1, 1, 0, 0), 4), dyadic(ring(2, 2, 0, 0), 0)},
		{"MulDyadic", dyadic(ring(0, 1, 0, -1), 0), dyadic(ring(1, 0, 0, 0), 1), whole(1)},
	}
	for _, c := range cases {
		got, ok := dyadicBinaries()[c.name](c.x, c.y)
		checkDyadic(t, c.name, got, ok, c.want)
	}
}

func TestDyadicConjugatesAndNorms(t *testing.T) {
	cases := []struct{ x, conjugate, square impl.Dyadic }{
		{whole(0), whole(0), whole(0)},
		{whole(-3), whole(-3), whole(9)},
		{dyadic(ring(2, 3, 5, -7), 3), dyadic(ring(2, 7, -5, -3), 3), dyadic(ring(87, 0, 0, 0), 6)},
		{dyadic(ring(1, 1, 0, 0), 2), dyadic(ring(1, 0, 0, -1), 2), dyadic(ring(1, 1, 0, -1), 3)},
		{dyadic(ring(3, 1, 0, 0), 1), dyadic(ring(3, 0, 0, -1), 1), dyadic(ring(3, 5, 0, -5), 1)},
		{dyadic(ring(0, 1, 0, -1), 0), dyadic(ring(0, 1, 0, -1), 0), whole(2)},
		{dyadic(ring(1, 1, 1, 0), 0), dyadic(ring(1, 0, -1, -1), 0), dyadic(ring(3, 2, 0, -2), 0)},
		{dyadic(ring(0, 0, 0, -1), 30), dyadic(ring(0, 1, 0, 0), 30), dyadic(ring(1, 0, 0, 0), 60)},
	}
	for _, c := range cases {
		got, ok := impl.ConjDyadic(c.x)
		checkDyadic(t, "ConjDyadic", got, ok, c.conjugate)
		got, ok = impl.NormSquare(c.x)
		checkDyadic(t, "NormSquare", got, ok, c.square)
	}
}

func TestDyadicPhases(t *testing.T) {
	powers := []impl.Ring{
		ring(1, 0, 0, 0), ring(0, 1, 0, 0), ring(0, 0, 1, 0), ring(0, 0, 0, 1),
		ring(-1, 0, 0, 0), ring(0, -1, 0, 0), ring(0, 0, -1, 0), ring(0, 0, 0, -1),
	}
	for k, power := range powers {
		got, ok := impl.PhaseOf(dyadic(power, 0))
		checkNumber(t, "PhaseOf", got, ok, k)
		for _, exp := range []int{1, 2, 8, maxExp, -1, maxExp + 1} {
			got, ok = impl.PhaseOf(dyadic(power, exp))
			checkNoNumber(t, "PhaseOf of a fraction", got, ok)
		}
	}
	for _, x := range []impl.Ring{
		{}, ring(2, 0, 0, 0), ring(0, 0, 0, -2), ring(1, 1, 0, 0), ring(1, 0, 1, 0), ring(1, 0, 0, 1), ring(0, 1, 0, -1),
		ring(1, -1, 0, 1), ring(1, 1, 0, -1), ring(1, 1, 1, 1), ring(-1, -1, -1, -1), ring(maxCoef, 0, 0, 0),
	} {
		got, ok := impl.PhaseOf(dyadic(x, 0))
		checkNoNumber(t, "PhaseOf", got, ok)
	}
	x, ok := impl.DyadicOf(ring(1, 0, 1, 0), 1)
	checkDyadic(t, "(1 + i) / sqrt(2)", x, ok, dyadic(ring(0, 1, 0, 0), 0))
	k, ok := impl.PhaseOf(x)
	checkNumber(t, "PhaseOf", k, ok, 1)
}

func TestDyadicComparisonsOrdinary(t *testing.T) {
	h := dyadic(ring(1, 0, 0, 0), 1)
	cases := []struct {
		x, y impl.Dyadic
		want int
	}{
		{whole(0), whole(0), 0},
		{whole(0), h, -1},
		{whole(-1), whole(0), 1},
		{whole(1), whole(-1), 0},
		{whole(-2), whole(1), 1},
		{whole(1), dyadic(ring(0, 0, 0, -1), 0), 0},
		{dyadic(ring(0, 0, 5, 0), 0), dyadic(ring(3, 0, 4, 0), 0), 0},
		{dyadic(ring(1, 1, 0, 0), 1), dyadic(ring(1, 0, 0, -1), 1), 0},
		{dyadic(ring(1, 1, 0, 0), 0), dyadic(ring(1, -1, 0, 0), 0), 1},
		{dyadic(ring(1, 1, 0, 0), 0), whole(2), -1},
		{dyadic(ring(1, 1, 0, -1), 0), whole(2), 1},
		{dyadic(ring(1, -1, 0, 1), 0), h, -1},
		{dyadic(ring(-1, 0, 0, 0), 3), dyadic(ring(0, 1, 0, 0), 2), -1},
		{dyadic(ring(3, 0, 0, 0), 4), dyadic(ring(0, 1, 0, 0), 1), 1},
	}
	for _, c := range cases {
		got, ok := impl.CompareAbs(c.x, c.y)
		checkNumber(t, "CompareAbs", got, ok, c.want)
		got, ok = impl.CompareAbs(c.y, c.x)
		checkNumber(t, "CompareAbs, exchanged", got, ok, -c.want)
	}
}

func TestDyadicRealSigns(t *testing.T) {
	for u := -60; u <= 60; u++ {
		for v := -45; v <= 45; v++ {
			sign, ok := impl.RealSign(u, v)
			checkNumber(t, "RealSign", sign, ok, signOfReal(u, v))
		}
	}
	cases := []struct{ u, v, sign int }{
		{0, 0, 0}, {1, 0, 1}, {-1, 0, -1}, {0, 1, 1}, {0, -1, -1}, {1, 1, 1}, {-1, -1, -1},
		{1, -1, -1}, {-1, 1, 1}, {3, -2, 1}, {-3, 2, -1}, {7, -5, -1}, {-7, 5, 1}, {17, -12, 1},
	}
	for _, c := range cases {
		sign, ok := impl.RealSign(c.u, c.v)
		checkNumber(t, "RealSign", sign, ok, c.sign)
	}
}
