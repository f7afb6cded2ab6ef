package tests

import (
	"testing"

	"loop.example/g00864/impl"
)

const maxCoef = 1000000000

func ring(a, b, c, d int) impl.Ring { return impl.Ring{A: a, B: b, C: c, D: d} }

// unary and binary let one table of cases cover all functions of the same shape.
type unary func(impl.Ring) (impl.Ring, bool)
type binary func(impl.Ring, impl.Ring) (impl.Ring, bool)

func unaries() map[string]unary {
	return map[string]unary{
		"Conjugate":  impl.Conjugate,
		"Bullet":     impl.Bullet,
		"MulRootTwo": impl.MulRootTwo,
		"DivRootTwo": impl.DivRootTwo,
	}
}

func binaries() map[string]binary {
	return map[string]binary{
		"AddRing": impl.AddRing,
		"SubRing": impl.SubRing,
		"MulRing": impl.MulRing,
		"DivRing": impl.DivRing,
	}
}

func checkRing(t *testing.T, what string, got impl.Ring, ok bool, want impl.Ring) {
	t.Helper()
	if !ok || got != want {
		t.Errorf("%s: got %v, %v, want %v", what, got, ok, want)
	}
}

// checkFails checks that a call failed and that its result is zero.
func checkFails(t *testing.T, what string, got impl.Ring, ok bool) {
	t.Helper()
	if ok || got != (impl.Ring{}) {
		t.Errorf("%s: got %v, %v, want failure", what, got, ok)
	}
}

func TestRingMaxCoef(t *testing.T) {
	if impl.MaxCoef != maxCoef {
		t.Error("MaxCoef is", impl.MaxCoef)
	}
}

func TestRingExample(t *testing.T) {
	x := ring(1, 1, 0, 0)
	square, ok := impl.MulRing(x, x)
	checkRing(t, "product", square, ok, ring(1, 2, 1, 0))
	got, ok := impl.Conjugate(x)
	checkRing(t, "conjugate", got, ok, ring(1, 0, 0, -1))
	got, ok = impl.DivRootTwo(ring(0, 1, 0, -1))
	checkRing(t, "half", got, ok, ring(1, 0, 0, 0))
	got, ok = impl.DivRing(ring(1, 2, 1, 0), x)
	checkRing(t, "quotient", got, ok, x)
	if u, v, ok := impl.AbsSquare(x); u != 2 || v != 1 || !ok {
		t.Error("square of the absolute value:", u, v, ok)
	}
	if n, ok := impl.NormOf(x); n != 2 || !ok {
		t.Error("norm:", n, ok)
	}
	if s, ok := impl.FormatRing(x); s != "1 1 0 0" || !ok {
		t.Error("text:", s, ok)
	}
}

func TestRingUnaryOrdinary(t *testing.T) {
	x := ring(2, 3, 5, -7)
	wants := map[string]impl.Ring{
		"Conjugate":  ring(2, 7, -5, -3),
		"Bullet":     ring(2, -3, 5, 7),
		"MulRootTwo": ring(10, 7, -4, 3),
	}
	for name, want := range wants {
		got, ok := unaries()[name](x)
		checkRing(t, name, got, ok, want)
	}
	got, ok := impl.DivRootTwo(ring(10, 7, -4, 3))
	checkRing(t, "DivRootTwo", got, ok, x)
}

func TestRingBinaryOrdinary(t *testing.T) {
	x, y := ring(2, 3, 5, -7), ring(1, -4, 6, 10)
	wants := map[string]impl.Ring{
		"AddRing": ring(3, -1, 11, 3),
		"SubRing": ring(1, 7, -1, -17),
		"MulRing": ring(2-30-30-28, 3-8+42-50, 5-12+12+70, -7-20+18+20),
	}
	for name, want := range wants {
		got, ok := binaries()[name](x, y)
		checkRing(t, name, got, ok, want)
	}
	got, ok := impl.DivRing(ring(-86, -13, 75, 11), y)
	checkRing(t, "DivRing", got, ok, x)
	got, ok = impl.DivRing(ring(-86, -13, 75, 11), x)
	checkRing(t, "DivRing", got, ok, y)
}

func TestRingPowersOfOmega(t *testing.T) {
	turns := []impl.Ring{
		ring(2, 3, 5, -7), ring(7, 2, 3, 5), ring(-5, 7, 2, 3), ring(-3, -5, 7, 2),
		ring(-2, -3, -5, 7), ring(-7, -2, -3, -5), ring(5, -7, -2, -3), ring(3, 5, -7, -2),
	}
	for k := -1000; k <= 1000; k++ {
		got, ok := impl.MulOmega(turns[0], k)
		checkRing(t, "MulOmega", got, ok, turns[(k+1000)%8])
	}
	full := ring(maxCoef, -maxCoef, maxCoef, maxCoef)
	got, ok := impl.MulOmega(full, 1)
	checkRing(t, "MulOmega at the limit", got, ok, ring(-maxCoef, maxCoef, -maxCoef, maxCoef))
}

func TestRingAbsSquareAndNormOrdinary(t *testing.T) {
	cases := []struct {
		x          impl.Ring
		u, v, norm int
	}{
		{ring(0, 0, 0, 0), 0, 0, 0},
		{ring(1, 0, 0, 0), 1, 0, 1},
		{ring(0, 0, 0, -1), 1, 0, 1},
		{ring(0, 1, 0, -1), 2, 0, 4},
		{ring(1, 1, 0, -1), 3, 2, 1},
		{ring(1, -1, 0, 1), 3, -2, 1},
		{ring(1, 1, 1, 0), 3, 2, 1},
		{ring(3, 1, 0, 0), 10, 3, 82},
		{ring(0, 3, 1, 0), 10, 3, 82},
		{ring(0, 0, 3, 1), 10, 3, 82},
		{ring(1, 0, 0, 3), 10, -3, 82},
		{ring(2, 3, 5, -7), 87, 0, 87 * 87},
	}
	for _, c := range cases {
		if u, v, ok := impl.AbsSquare(c.x); u != c.u || v != c.v || !ok {
			t.Errorf("AbsSquare of %v: got %d, %d, %v, want %d, %d", c.x, u, v, ok, c.u, c.v)
		}
		if n, ok := impl.NormOf(c.x); n != c.norm || !ok {
			t.Errorf("NormOf of %v: got %d, %v, want %d", c.x, n, ok, c.norm)
		}
	}
}
