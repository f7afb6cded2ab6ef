package tests

import (
	"testing"

	"loop.example/g00864/impl"
)

// tuples returns all numbers with coefficients in the list.
func tuples(coefs []int) []impl.Ring {
	var list []impl.Ring
	for _, a := range coefs {
		for _, b := range coefs {
			for _, c := range coefs {
				for _, d := range coefs {
					list = append(list, ring(a, b, c, d))
				}
			}
		}
	}
	return list
}

// samples returns numbers with coefficients below the bound, the same ones in every run.
func samples(count int, bound int) []impl.Ring {
	state := uint64(count)*1000003 + uint64(bound)
	next := func() int {
		state = state*6364136223846793005 + 1442695040888963407
		return int(state>>33)%(2*bound-1) - bound + 1
	}
	var list []impl.Ring
	for range count {
		list = append(list, ring(next(), next(), next(), next()))
	}
	return list
}

// must returns the result of a call that has to succeed.
func must(t *testing.T) func(impl.Ring, bool) impl.Ring {
	return func(x impl.Ring, ok bool) impl.Ring {
		t.Helper()
		if !ok {
			t.Error("a call failed")
		}
		return x
	}
}

func checkLaw(t *testing.T, law string, left impl.Ring, right impl.Ring) {
	t.Helper()
	if left != right {
		t.Errorf("%s: %v is not %v", law, left, right)
	}
}

func TestRingLaws(t *testing.T) {
	get := must(t)
	list := append(samples(14, 1000), ring(0, 0, 0, 0), ring(1, 0, 0, 0), ring(0, -1, 0, 0), ring(1, 1, 0, -1))
	for _, x := range list {
		zero, one := ring(0, 0, 0, 0), ring(1, 0, 0, 0)
		checkLaw(t, "0 is neutral", get(impl.AddRing(x, zero)), x)
		checkLaw(t, "1 is neutral", get(impl.MulRing(x, one)), x)
		checkLaw(t, "x - x is 0", get(impl.SubRing(x, x)), zero)
		for _, y := range list {
			sum, product := get(impl.AddRing(x, y)), get(impl.MulRing(x, y))
			checkLaw(t, "sums commute", sum, get(impl.AddRing(y, x)))
			checkLaw(t, "products commute", product, get(impl.MulRing(y, x)))
			checkLaw(t, "differences undo sums", get(impl.SubRing(sum, y)), x)
			for _, z := range list {
				checkLaw(t, "sums associate", get(impl.AddRing(sum, z)), get(impl.AddRing(x, get(impl.AddRing(y, z)))))
				checkLaw(t, "distribution", get(impl.MulRing(sum, z)), get(impl.AddRing(get(impl.MulRing(x, z)), get(impl.MulRing(y, z)))))
			}
		}
	}
}

func TestRingProductsAssociate(t *testing.T) {
	get := must(t)
	list := samples(20, 400)
	for _, x := range list {
		for _, y := range list {
			for _, z := range list {
				checkLaw(t, "products associate", get(impl.MulRing(get(impl.MulRing(x, y)), z)), get(impl.MulRing(x, get(impl.MulRing(y, z)))))
			}
		}
	}
}

func TestRingConjugationsAreHomomorphisms(t *testing.T) {
	get := must(t)
	for _, name := range []string{"Conjugate", "Bullet"} {
		f := unaries()[name]
		list := append(samples(40, 10000), ring(1, 0, 0, 0))
		for _, x := range list {
			checkLaw(t, name+" twice", get(f(get(f(x)))), x)
			for _, y := range list {
				checkLaw(t, name+" of a sum", get(f(get(impl.AddRing(x, y)))), get(impl.AddRing(get(f(x)), get(f(y)))))
				checkLaw(t, name+" of a product", get(f(get(impl.MulRing(x, y)))), get(impl.MulRing(get(f(x)), get(f(y)))))
			}
		}
	}
}

func TestRingImagesOfGenerators(t *testing.T) {
	get := must(t)
	one, w, root := ring(1, 0, 0, 0), ring(0, 1, 0, 0), ring(0, 1, 0, -1)
	checkLaw(t, "conjugate of w", get(impl.Conjugate(w)), get(impl.MulOmega(one, -1)))
	checkLaw(t, "bullet of w", get(impl.Bullet(w)), ring(0, -1, 0, 0))
	checkLaw(t, "bullet of sqrt(2)", get(impl.Bullet(root)), ring(0, -1, 0, 1))
	checkLaw(t, "conjugate of sqrt(2)", get(impl.Conjugate(root)), root)
	checkLaw(t, "sqrt(2) squared", get(impl.MulRing(root, root)), ring(2, 0, 0, 0))
}

func TestRingNormsAreMultiplicative(t *testing.T) {
	list := append(samples(60, 60), ring(0, 0, 0, 0), ring(0, 1, 0, -1), ring(1, 1, 0, -1))
	for _, x := range list {
		n, ok := impl.NormOf(x)
		if !ok || n < 0 || (n == 0) != (x == impl.Ring{}) {
			t.Errorf("norm of %v: got %d, %v", x, n, ok)
		}
		for _, y := range list {
			product, _ := impl.MulRing(x, y)
			m, _ := impl.NormOf(y)
			if got, ok := impl.NormOf(product); got != n*m || !ok {
				t.Errorf("norm of %v times %v: got %d, %v, want %d", x, y, got, ok, n*m)
			}
		}
	}
}

func TestRingOperationsAgree(t *testing.T) {
	get := must(t)
	root := ring(0, 1, 0, -1)
	for _, x := range samples(500, 1000000) {
		double := get(impl.MulRootTwo(x))
		checkLaw(t, "times sqrt(2)", double, get(impl.MulRing(x, root)))
		checkLaw(t, "half of the double", get(impl.DivRootTwo(double)), x)
		for k := -9; k <= 9; k++ {
			checkLaw(t, "one more turn", get(impl.MulOmega(x, k+1)), get(impl.MulRing(get(impl.MulOmega(x, k)), ring(0, 1, 0, 0))))
		}
	}
}

func TestRingQuotientsUndoProducts(t *testing.T) {
	get := must(t)
	for _, x := range samples(100, 100) {
		for _, y := range samples(100, 30) {
			if y == (impl.Ring{}) {
				continue
			}
			checkLaw(t, "quotient", get(impl.DivRing(get(impl.MulRing(x, y)), y)), x)
		}
	}
}
