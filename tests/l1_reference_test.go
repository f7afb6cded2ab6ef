package tests

import (
	"math"
	"math/big"
	"testing"

	"loop.example/g00864/impl"
)

// exact is a number of the ring with coefficients of any size; the document's formulas are computed on it without limits.
type exact [4]*big.Int

func exactOf(x impl.Ring) exact {
	return exact{big.NewInt(int64(x.A)), big.NewInt(int64(x.B)), big.NewInt(int64(x.C)), big.NewInt(int64(x.D))}
}

func within(n *big.Int) bool { return n.CmpAbs(big.NewInt(maxCoef)) <= 0 }

func (x exact) valid() bool { return within(x[0]) && within(x[1]) && within(x[2]) && within(x[3]) }

func (x exact) ring() (impl.Ring, bool) {
	if !x.valid() {
		return impl.Ring{}, false
	}
	return ring(int(x[0].Int64()), int(x[1].Int64()), int(x[2].Int64()), int(x[3].Int64())), true
}

// combine adds the coefficients of x at the places given by 1 to 4, or subtracts them for -1 to -4.
func (x exact) combine(places ...int) *big.Int {
	sum := new(big.Int)
	for _, p := range places {
		if p > 0 {
			sum.Add(sum, x[p-1])
		} else {
			sum.Sub(sum, x[-p-1])
		}
	}
	return sum
}

func (x exact) plus(y exact, sign int64) exact {
	var z exact
	for i := range z {
		z[i] = new(big.Int).Mul(y[i], big.NewInt(sign))
		z[i].Add(z[i], x[i])
	}
	return z
}

// turn multiplies by w.
func (x exact) turn() exact { return exact{x.combine(-4), x.combine(1), x.combine(2), x.combine(3)} }

// times multiplies by each coefficient of y and the power of w that belongs to it.
func (x exact) times(y exact) exact {
	z := exactOf(impl.Ring{})
	for _, b := range y {
		for i := range z {
			z[i] = new(big.Int).Add(z[i], new(big.Int).Mul(x[i], b))
		}
		x = x.turn()
	}
	return z
}

func (x exact) conjugate() exact {
	return exact{x.combine(1), x.combine(-4), x.combine(-3), x.combine(-2)}
}

// over divides every coefficient by n and reports whether all quotients are integers.
func (x exact) over(n *big.Int) (exact, bool) {
	var z exact
	whole := true
	for i := range z {
		rest := new(big.Int)
		z[i], rest = new(big.Int).QuoRem(x[i], n, rest)
		whole = whole && rest.Sign() == 0
	}
	return z, whole
}

// square returns u and v of AbsSquare and whether they are within the limit.
func (x exact) square() (*big.Int, *big.Int, bool) {
	product := x.times(x.conjugate())
	return product[0], product[1], x.valid() && within(product[0]) && within(product[1])
}

func normFrom(u *big.Int, v *big.Int) *big.Int {
	twice := new(big.Int).Mul(v, v)
	twice.Lsh(twice, 1)
	return twice.Sub(new(big.Int).Mul(u, u), twice)
}

func referenceQuotient(x exact, y exact) (impl.Ring, bool) {
	u, v, ok := y.square()
	if !ok || u.Sign() == 0 {
		return impl.Ring{}, false
	}
	first := x.times(y.conjugate())
	minus := new(big.Int).Neg(v)
	second := first.times(exact{u, minus, new(big.Int), v})
	quotient, whole := second.over(normFrom(u, v))
	if !whole || !first.valid() || !second.valid() {
		return impl.Ring{}, false
	}
	return quotient.ring()
}

func compare(t *testing.T, name string, got impl.Ring, ok bool, want impl.Ring, succeeds bool, args ...any) {
	t.Helper()
	if got != want || ok != succeeds {
		t.Errorf("%s of %v: got %v, %v, want %v, %v", name, args, got, ok, want, succeeds)
	}
}

// edgeCoefs are coefficients near the limits of the document, of the arithmetic and of int.
func edgeCoefs() []int {
	return []int{
		0, 1, -1, 2, -3, 22361, -31622, 31623, maxCoef / 2, -maxCoef/2 - 1, maxCoef - 1, maxCoef, -maxCoef, maxCoef + 1, 1 << 32, math.MaxInt, math.MinInt,
	}
}

func TestRingReferenceOfOneArgument(t *testing.T) {
	for _, x := range append(tuples(edgeCoefs()), samples(20000, 40000)...) {
		e := exactOf(x)
		if impl.IsValidRing(x) != e.valid() {
			t.Error("IsValidRing:", x)
		}
		root := exact{e.combine(2, -4), e.combine(1, 3), e.combine(2, 4), e.combine(3, -1)}
		compareUnary(t, "Conjugate", x, e.conjugate(), true)
		compareUnary(t, "Bullet", x, exact{e.combine(1), e.combine(-2), e.combine(3), e.combine(-4)}, true)
		compareUnary(t, "MulRootTwo", x, root, true)
		half, whole := root.over(big.NewInt(2))
		compareUnary(t, "DivRootTwo", x, half, whole)
		compareSquare(t, x)
		for _, k := range []int{-1000, -3, 0, 5, 999} {
			want := e
			for range (k + 1000) % 8 {
				want = want.turn()
			}
			got, ok := impl.MulOmega(x, k)
			wanted, succeeds := want.ring()
			compare(t, "MulOmega", got, ok, wanted, succeeds, x, k)
		}
	}
}

func compareUnary(t *testing.T, name string, x impl.Ring, want exact, exists bool) {
	t.Helper()
	wanted, succeeds := want.ring()
	if !exists || !exactOf(x).valid() {
		wanted, succeeds = impl.Ring{}, false
	}
	got, ok := unaries()[name](x)
	compare(t, name, got, ok, wanted, succeeds, x)
}

func compareSquare(t *testing.T, x impl.Ring) {
	t.Helper()
	u, v, ok := exactOf(x).square()
	if !ok {
		checkNoSquare(t, x)
		return
	}
	if gotU, gotV, ok := impl.AbsSquare(x); !ok || int64(gotU) != u.Int64() || int64(gotV) != v.Int64() {
		t.Errorf("AbsSquare of %v: got %d, %d, %v, want %v, %v", x, gotU, gotV, ok, u, v)
	}
	norm := normFrom(u, v)
	if got, ok := impl.NormOf(x); !ok || !norm.IsInt64() || int64(got) != norm.Int64() {
		t.Errorf("NormOf of %v: got %d, %v, want %v", x, got, ok, norm)
	}
}

// pairPartners has small and large numbers, those that share a factor, and invalid ones.
func pairPartners() []impl.Ring {
	list := tuples([]int{0, 1, -2})
	list = append(list, samples(60, 40)...)
	list = append(list, samples(60, 30000)...)
	list = append(list, samples(40, maxCoef)...)
	list = append(list, tuples([]int{maxCoef, -maxCoef})...)
	for _, a := range edgeCoefs() {
		list = append(list, ring(a, 0, 0, 0), ring(0, a, 0, 1), ring(0, -1, a, 0), ring(a, a, a, a))
	}
	return list
}

func TestRingReferenceOfTwoArguments(t *testing.T) {
	list := pairPartners()
	for _, x := range list {
		for _, y := range list {
			e, f := exactOf(x), exactOf(y)
			compareBinary(t, "AddRing", x, y, e.plus(f, 1))
			compareBinary(t, "SubRing", x, y, e.plus(f, -1))
			compareBinary(t, "MulRing", x, y, e.times(f))
			compareQuotient(t, x, y)
			if product, ok := e.times(f).ring(); ok {
				compareQuotient(t, product, y)
			}
		}
	}
}

func compareBinary(t *testing.T, name string, x impl.Ring, y impl.Ring, want exact) {
	t.Helper()
	wanted, succeeds := want.ring()
	if !exactOf(x).valid() || !exactOf(y).valid() {
		wanted, succeeds = impl.Ring{}, false
	}
	got, ok := binaries()[name](x, y)
	compare(t, name, got, ok, wanted, succeeds, x, y)
}

func compareQuotient(t *testing.T, x impl.Ring, y impl.Ring) {
	t.Helper()
	e, f := exactOf(x), exactOf(y)
	var wanted impl.Ring
	succeeds := false
	if e.valid() && f.valid() {
		wanted, succeeds = referenceQuotient(e, f)
	}
	got, ok := impl.DivRing(x, y)
	compare(t, "DivRing", got, ok, wanted, succeeds, x, y)
}
