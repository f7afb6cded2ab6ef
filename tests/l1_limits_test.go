package tests

import (
	"math"
	"testing"

	"loop.example/g00864/impl"
)

// invalidCoefs are out of range; several of them wrap around into a valid number when they are negated, doubled or multiplied.
func invalidCoefs() []int {
	return []int{
		maxCoef + 1, -maxCoef - 1, 2 * maxCoef, 1 << 32, -1 << 32, 1<<32 + 1, 1 << 33, -1 << 61, 1 << 62, -1 << 62,
		math.MaxInt, math.MaxInt - 1, math.MinInt, math.MinInt + 1,
	}
}

// invalidRings has every invalid coefficient in every position, and in all of them.
func invalidRings() []impl.Ring {
	var list []impl.Ring
	for _, a := range invalidCoefs() {
		list = append(list, ring(a, 0, 0, 0), ring(0, a, 0, 0), ring(0, 0, a, 0), ring(0, 0, 0, a), ring(a, a, a, a), ring(a, 0, -a, 0))
	}
	return list
}

func TestRingValidity(t *testing.T) {
	for _, a := range []int{0, 1, -1, maxCoef - 1, 1 - maxCoef, maxCoef, -maxCoef} {
		for _, x := range []impl.Ring{ring(a, 0, 0, 0), ring(0, a, 0, 0), ring(0, 0, a, 0), ring(0, 0, 0, a), ring(a, a, a, a)} {
			if !impl.IsValidRing(x) {
				t.Error("not valid:", x)
			}
		}
	}
	for _, x := range invalidRings() {
		if impl.IsValidRing(x) {
			t.Error("valid:", x)
		}
	}
}

func TestRingInvalidArguments(t *testing.T) {
	valid := []impl.Ring{{}, ring(1, 0, 0, 0), ring(0, 1, 0, -1), ring(maxCoef, -maxCoef, maxCoef, -maxCoef)}
	for _, x := range invalidRings() {
		for name, f := range unaries() {
			got, ok := f(x)
			checkFails(t, name, got, ok)
		}
		for name, f := range binaries() {
			for _, y := range append(invalidRings(), valid...) {
				got, ok := f(x, y)
				checkFails(t, name, got, ok)
				got, ok = f(y, x)
				checkFails(t, name, got, ok)
			}
		}
		for _, k := range []int{0, 1, 4, -1000, 1000, 1001, math.MinInt, math.MaxInt} {
			got, ok := impl.MulOmega(x, k)
			checkFails(t, "MulOmega", got, ok)
		}
		checkNoSquare(t, x)
		if s, ok := impl.FormatRing(x); s != "" || ok {
			t.Errorf("FormatRing of %v: got %q, %v", x, s, ok)
		}
	}
}

func checkNoSquare(t *testing.T, x impl.Ring) {
	t.Helper()
	if u, v, ok := impl.AbsSquare(x); u != 0 || v != 0 || ok {
		t.Errorf("AbsSquare of %v: got %d, %d, %v", x, u, v, ok)
	}
	if n, ok := impl.NormOf(x); n != 0 || ok {
		t.Errorf("NormOf of %v: got %d, %v", x, n, ok)
	}
}

func TestRingOmegaPowerOutOfRange(t *testing.T) {
	for _, k := range []int{1001, -1001, 1008, -1008, 1 << 32, math.MaxInt, math.MinInt, math.MinInt + 8} {
		for _, x := range []impl.Ring{{}, ring(2, 3, 5, -7), ring(maxCoef, 0, 0, 0)} {
			got, ok := impl.MulOmega(x, k)
			checkFails(t, "MulOmega", got, ok)
		}
	}
}

func TestRingSumsAtTheLimit(t *testing.T) {
	half, rest := ring(400000000, -1, 0, -999999999), ring(600000000, -999999999, maxCoef, -1)
	got, ok := impl.AddRing(half, rest)
	checkRing(t, "sum", got, ok, ring(maxCoef, -maxCoef, maxCoef, -maxCoef))
	full := ring(maxCoef, -maxCoef, maxCoef, -maxCoef)
	got, ok = impl.SubRing(full, rest)
	checkRing(t, "difference", got, ok, half)
	got, ok = impl.SubRing(ring(0, 0, 0, 0), full)
	checkRing(t, "negative", got, ok, ring(-maxCoef, maxCoef, -maxCoef, maxCoef))
	for _, one := range []impl.Ring{ring(1, 0, 0, 0), ring(0, -1, 0, 0), ring(0, 0, 1, 0), ring(0, 0, 0, -1), full} {
		got, ok = impl.AddRing(full, one)
		checkFails(t, "sum", got, ok)
		minus := ring(-one.A, -one.B, -one.C, -one.D)
		got, ok = impl.SubRing(full, minus)
		checkFails(t, "difference", got, ok)
	}
}

func TestRingProductsAtTheLimit(t *testing.T) {
	got, ok := impl.MulRing(ring(31250, 0, 0, 0), ring(0, 32000, -32000, 0))
	checkRing(t, "product", got, ok, ring(0, maxCoef, -maxCoef, 0))
	got, ok = impl.MulRing(ring(31250, 1, 0, 0), ring(32000, 0, 0, 0))
	checkRing(t, "product", got, ok, ring(maxCoef, 32000, 0, 0))
	got, ok = impl.MulRing(ring(32000, 0, 0, 1), ring(31250, -1, 0, 0))
	checkFails(t, "product", got, ok) // A is MaxCoef + 1
	got, ok = impl.MulRing(ring(-32000, 0, 0, 1), ring(31250, 1, 0, 0))
	checkFails(t, "product", got, ok) // A is -MaxCoef - 1
	// The powers of 1 + sqrt(2) and 1 - sqrt(2) have terms that exceed the limit by far, but their sums are 1 and 0.
	got, ok = impl.MulRing(ring(768398401, 543339720, 0, -543339720), ring(768398401, -543339720, 0, 543339720))
	checkRing(t, "product", got, ok, ring(1, 0, 0, 0))
	full := ring(maxCoef, maxCoef, maxCoef, maxCoef)
	got, ok = impl.MulRing(full, ring(maxCoef, -maxCoef, -maxCoef, -maxCoef))
	checkFails(t, "product", got, ok)
	got, ok = impl.MulRing(full, full)
	checkFails(t, "product", got, ok)
}

func TestRingRootTwoAtTheLimit(t *testing.T) {
	const half = maxCoef / 2
	fits := map[impl.Ring]impl.Ring{
		ring(half, half, half, half):       ring(0, maxCoef, maxCoef, 0),
		ring(-half, -half, -half, -half):   ring(0, -maxCoef, -maxCoef, 0),
		ring(half, half, -half, -half):     ring(maxCoef, 0, 0, -maxCoef),
		ring(-half, -half, half, half):     ring(-maxCoef, 0, 0, maxCoef),
		ring(maxCoef, maxCoef, 0, 0):       ring(maxCoef, maxCoef, maxCoef, -maxCoef),
		ring(0, 0, -maxCoef, 1-maxCoef):    ring(maxCoef-1, -maxCoef, 1-maxCoef, -maxCoef),
		ring(maxCoef, 0, 0, 0):             ring(0, maxCoef, 0, -maxCoef),
		ring(half+1, half-1, half-1, half): ring(-1, maxCoef, maxCoef-1, -2),
	}
	for x, want := range fits {
		got, ok := impl.MulRootTwo(x)
		checkRing(t, "MulRootTwo", got, ok, want)
		got, ok = impl.DivRootTwo(want)
		checkRing(t, "DivRootTwo", got, ok, x)
	}
	for _, x := range []impl.Ring{
		ring(half, 0, half+1, 0), ring(-half, 0, -half-1, 0), ring(half, 0, -half-1, 0), ring(-half-1, 0, half, 0),
		ring(0, half, 0, half+1), ring(0, -half, 0, -half-1), ring(0, half, 0, -half-1), ring(0, -half-1, 0, half),
		ring(maxCoef, maxCoef, maxCoef, maxCoef), ring(-maxCoef, maxCoef, maxCoef, -maxCoef),
	} {
		got, ok := impl.MulRootTwo(x)
		checkFails(t, "MulRootTwo", got, ok)
	}
}

func TestRingHalves(t *testing.T) {
	cases := map[impl.Ring]impl.Ring{
		ring(0, 0, 0, 0):                           ring(0, 0, 0, 0),
		ring(1, 0, 1, 0):                           ring(0, 1, 0, 0),
		ring(1, 0, -1, 0):                          ring(0, 0, 0, -1),
		ring(0, 1, 0, 1):                           ring(0, 0, 1, 0),
		ring(0, -1, 0, 1):                          ring(-1, 0, 0, 0),
		ring(maxCoef, maxCoef, maxCoef, maxCoef):   ring(0, maxCoef, maxCoef, 0),
		ring(-maxCoef, maxCoef, maxCoef, -maxCoef): ring(maxCoef, 0, 0, maxCoef),
		ring(maxCoef-1, 0, 1-maxCoef, 0):           ring(0, 0, 0, 1-maxCoef),
	}
	for x, want := range cases {
		got, ok := impl.DivRootTwo(x)
		checkRing(t, "DivRootTwo", got, ok, want)
	}
	for _, x := range []impl.Ring{
		ring(1, 0, 0, 0), ring(0, 1, 0, 0), ring(0, 0, 1, 0), ring(0, 0, 0, 1), ring(-1, 0, 0, 0), ring(0, 0, 0, -1),
		ring(1, 1, 0, 0), ring(0, 1, 1, 0), ring(1, 1, 1, 0), ring(1, 1, 0, 1), ring(0, 1, 1, 1), ring(1, 0, 1, 1),
		ring(maxCoef, 0, maxCoef-1, 0), ring(-maxCoef, 0, 1-maxCoef, 0), ring(0, maxCoef, 0, 1-maxCoef),
	} {
		got, ok := impl.DivRootTwo(x)
		checkFails(t, "DivRootTwo", got, ok)
	}
}

func TestRingNormsAtTheLimit(t *testing.T) {
	x := ring(30000, 0, 10000, 0)
	if u, v, ok := impl.AbsSquare(x); u != maxCoef || v != 0 || !ok {
		t.Error("AbsSquare:", u, v, ok)
	}
	if n, ok := impl.NormOf(x); n != maxCoef*maxCoef || !ok {
		t.Error("NormOf:", n, ok)
	}
	y := ring(15811, 15811, 15811, -15811)
	if u, v, ok := impl.AbsSquare(y); u != 999950884 || v != 499975442 || !ok {
		t.Error("AbsSquare:", u, v, ok)
	}
	if n, ok := impl.NormOf(y); n != 499950885206190728 || !ok {
		t.Error("NormOf:", n, ok)
	}
	for _, z := range []impl.Ring{
		ring(30000, 1, 10000, 0), ring(30000, 0, 10000, 1), ring(31623, 0, 0, 0), ring(0, 0, 0, -31623),
		ring(1<<16, 0, 0, 0), ring(maxCoef, 0, 0, 0), ring(-maxCoef, maxCoef, maxCoef, -maxCoef),
	} {
		checkNoSquare(t, z)
	}
}

func TestRingDivisionByZero(t *testing.T) {
	for _, x := range []impl.Ring{{}, ring(1, 0, 0, 0), ring(2, 3, 5, -7), ring(maxCoef, maxCoef, maxCoef, maxCoef)} {
		got, ok := impl.DivRing(x, impl.Ring{})
		checkFails(t, "DivRing", got, ok)
	}
}

func TestRingQuotientNotInTheRing(t *testing.T) {
	two := ring(2, 0, 0, 0)
	for _, x := range []impl.Ring{
		ring(1, 0, 0, 0), ring(0, 1, 0, 0), ring(0, 0, 1, 0), ring(0, 0, 0, 1), ring(-1, 0, 0, 0), ring(-3, 0, 0, 0),
		ring(2, 2, 2, 1), ring(2, 2, -1, 2), ring(2, 3, 2, 2), ring(5, 2, 2, 2), ring(1, -1, 1, -1),
	} {
		got, ok := impl.DivRing(x, two)
		checkFails(t, "DivRing", got, ok)
	}
	one := ring(1, 0, 0, 0)
	for _, y := range []impl.Ring{two, ring(-2, 0, 0, 0), ring(1, 1, 0, 0), ring(0, 1, 0, -1), ring(1, 0, 1, 0), ring(3, 0, 0, 0), ring(2, 1, 0, 0)} {
		got, ok := impl.DivRing(one, y)
		checkFails(t, "DivRing", got, ok)
	}
}

func TestRingQuotientByUnits(t *testing.T) {
	full := ring(maxCoef, -maxCoef, maxCoef-1, maxCoef)
	for k := 0; k < 8; k++ {
		unit, _ := impl.MulOmega(ring(1, 0, 0, 0), k)
		want, _ := impl.MulOmega(full, -k)
		got, ok := impl.DivRing(full, unit)
		checkRing(t, "DivRing", got, ok, want)
	}
	got, ok := impl.DivRing(ring(1, 0, 0, 0), ring(1, 1, 0, -1))
	checkRing(t, "inverse of 1 + sqrt(2)", got, ok, ring(-1, 1, 0, -1))
}

func TestRingQuotientIntermediateProducts(t *testing.T) {
	two, silver := ring(2, 0, 0, 0), ring(1, 1, 0, -1)
	got, ok := impl.DivRing(ring(125000000, 0, 0, -125000000), two)
	checkRing(t, "second product meets the limit", got, ok, ring(62500000, 0, 0, -62500000))
	got, ok = impl.DivRing(ring(125000002, 0, 0, 0), two)
	checkFails(t, "second product exceeds the limit", got, ok)
	got, ok = impl.DivRing(ring(maxCoef, 0, 0, 0), two)
	checkFails(t, "both products exceed the limit", got, ok)
	got, ok = impl.DivRing(ring(200000000, 200000000, 0, -200000000), silver)
	checkRing(t, "first product is within the limit", got, ok, ring(200000000, 0, 0, 0))
	got, ok = impl.DivRing(ring(400000000, 400000000, 0, -400000000), silver)
	checkFails(t, "only the first product exceeds the limit", got, ok)
	got, ok = impl.DivRing(ring(177, 0, 0, 0), ring(177, 0, 0, 0))
	checkRing(t, "177 / 177", got, ok, ring(1, 0, 0, 0))
	got, ok = impl.DivRing(ring(178, 0, 0, 0), ring(178, 0, 0, 0))
	checkFails(t, "178 / 178", got, ok)
}

func TestRingQuotientDivisorSquare(t *testing.T) {
	got, ok := impl.DivRing(impl.Ring{}, ring(30000, 0, 10000, 0))
	checkRing(t, "the divisor's square meets the limit", got, ok, impl.Ring{})
	for _, y := range []impl.Ring{ring(30000, 1, 10000, 0), ring(40000, 0, 0, 0), ring(maxCoef, 0, 0, 0)} {
		for _, x := range []impl.Ring{{}, ring(1, 0, 0, 0), y} {
			got, ok := impl.DivRing(x, y)
			checkFails(t, "the divisor's square exceeds the limit", got, ok)
		}
	}
}
