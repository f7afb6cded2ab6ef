package tests

import (
	"testing"

	"loop.example/g00864/impl"
)

// dyadicSamples returns lowest forms with small numerators and exponents up to the given one, so that no limit is met.
func dyadicSamples(count int, bound int, exps int) []impl.Dyadic {
	list := []impl.Dyadic{whole(0), whole(1), whole(-1), dyadic(ring(1, 0, 0, 0), 1), dyadic(ring(1, 1, 0, 0), 2)}
	for i, num := range samples(count, bound) {
		x, _ := impl.DyadicOf(num, i%(exps+1))
		list = append(list, x)
	}
	return list
}

func mustDyadic(t *testing.T) func(impl.Dyadic, bool) impl.Dyadic {
	return func(x impl.Dyadic, ok bool) impl.Dyadic {
		t.Helper()
		if !ok || !impl.IsValidDyadic(x) {
			t.Error("a call failed or its result is not valid:", x, ok)
		}
		return x
	}
}

func checkDyadicLaw(t *testing.T, law string, left impl.Dyadic, right impl.Dyadic) {
	t.Helper()
	if left != right {
		t.Errorf("%s: %v is not %v", law, left, right)
	}
}

func TestDyadicRingLaws(t *testing.T) {
	get := mustDyadic(t)
	list := dyadicSamples(30, 12, 6)
	for _, x := range list {
		checkDyadicLaw(t, "0 is neutral", get(impl.AddDyadic(x, whole(0))), x)
		checkDyadicLaw(t, "1 is neutral", get(impl.MulDyadic(x, whole(1))), x)
		checkDyadicLaw(t, "0 absorbs", get(impl.MulDyadic(x, whole(0))), whole(0))
		checkDyadicLaw(t, "x - x is 0", get(impl.SubDyadic(x, x)), whole(0))
		for _, y := range list {
			sum, product := get(impl.AddDyadic(x, y)), get(impl.MulDyadic(x, y))
			checkDyadicLaw(t, "sums commute", sum, get(impl.AddDyadic(y, x)))
			checkDyadicLaw(t, "products commute", product, get(impl.MulDyadic(y, x)))
			checkDyadicLaw(t, "differences undo sums", get(impl.SubDyadic(sum, y)), x)
			for _, z := range list {
				checkDyadicLaw(t, "sums associate", get(impl.AddDyadic(sum, z)), get(impl.AddDyadic(x, get(impl.AddDyadic(y, z)))))
				checkDyadicLaw(t, "products associate", get(impl.MulDyadic(product, z)), get(impl.MulDyadic(x, get(impl.MulDyadic(y, z)))))
				checkDyadicLaw(t, "distribution", get(impl.MulDyadic(sum, z)), get(impl.AddDyadic(get(impl.MulDyadic(x, z)), get(impl.MulDyadic(y, z)))))
			}
		}
	}
}

func TestDyadicConjugationLaws(t *testing.T) {
	get := mustDyadic(t)
	list := dyadicSamples(60, 40, 7)
	for _, x := range list {
		conjugate := get(impl.ConjDyadic(x))
		checkDyadicLaw(t, "conjugate twice", get(impl.ConjDyadic(conjugate)), x)
		square := get(impl.NormSquare(x))
		checkDyadicLaw(t, "norm", square, get(impl.MulDyadic(x, conjugate)))
		checkDyadicLaw(t, "norms are real", get(impl.ConjDyadic(square)), square)
		for _, y := range list {
			other := get(impl.ConjDyadic(y))
			checkDyadicLaw(t, "conjugate of a sum", get(impl.ConjDyadic(get(impl.AddDyadic(x, y)))), get(impl.AddDyadic(conjugate, other)))
			product := get(impl.MulDyadic(x, y))
			checkDyadicLaw(t, "conjugate of a product", get(impl.ConjDyadic(product)), get(impl.MulDyadic(conjugate, other)))
			checkDyadicLaw(t, "norm of a product", get(impl.NormSquare(product)), get(impl.MulDyadic(square, get(impl.NormSquare(y)))))
		}
	}
}

// TestDyadicLowestFormIsUnique writes one number in many ways: all of them have the same lowest form.
func TestDyadicLowestFormIsUnique(t *testing.T) {
	get := mustDyadic(t)
	for i, num := range append(samples(300, 50), impl.Ring{}, ring(1, 0, 0, 0), ring(0, 3, 3, 0)) {
		exp := i % 12
		want := get(impl.DyadicOf(num, exp))
		if want.Exp > exp {
			t.Error("the exponent grew:", num, exp, want)
		}
		for steps := 1; exp+steps <= maxExp; steps++ {
			raised, ok := impl.MulRootTwo(num)
			if !ok {
				break
			}
			num = raised
			checkDyadicLaw(t, "lowest form", get(impl.DyadicOf(num, exp+steps)), want)
		}
	}
}

// TestDyadicLowestFormsDiffer compares many pairs: their difference is zero exactly if they are the same.
func TestDyadicLowestFormsDiffer(t *testing.T) {
	get := mustDyadic(t)
	var list []impl.Dyadic
	for i, num := range tuples([]int{-1, 0, 1, 2}) {
		list = append(list, get(impl.DyadicOf(num, i%4)))
	}
	for _, x := range list {
		for _, y := range list {
			difference := get(impl.SubDyadic(x, y))
			if (difference == impl.Dyadic{}) != (x == y) {
				t.Error("difference of", x, y, "is", difference)
			}
		}
	}
}

func TestDyadicPhasesMultiply(t *testing.T) {
	get := mustDyadic(t)
	w := dyadic(ring(0, 1, 0, 0), 0)
	x := whole(1)
	for k := range 40 {
		got, ok := impl.PhaseOf(x)
		checkNumber(t, "PhaseOf", got, ok, k%8)
		x = get(impl.MulDyadic(x, w))
	}
}

func TestDyadicComparisonsAreAnOrder(t *testing.T) {
	get := mustDyadic(t)
	list := dyadicSamples(40, 20, 5)
	compareAbs := func(x, y impl.Dyadic) int {
		order, ok := impl.CompareAbs(x, y)
		if !ok {
			t.Error("CompareAbs failed:", x, y)
		}
		return order
	}
	for _, x := range list {
		for _, y := range list {
			order := compareAbs(x, y)
			if compareAbs(y, x) != -order {
				t.Error("not antisymmetric:", x, y)
			}
			if (order == 0) != (get(impl.NormSquare(x)) == get(impl.NormSquare(y))) {
				t.Error("equal without equal norms, or the reverse:", x, y)
			}
			if compareAbs(get(impl.ConjDyadic(x)), y) != order {
				t.Error("the conjugate compares differently:", x, y)
			}
			for _, z := range list {
				if order <= 0 && compareAbs(y, z) <= 0 && compareAbs(x, z) > 0 {
					t.Error("not transitive:", x, y, z)
				}
			}
		}
	}
}
