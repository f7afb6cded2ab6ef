package tests

import (
	"math"
	"testing"

	"loop.example/g00864/impl"
)

// nearLimits are coefficients of both parities, at the limits and inside.
func nearLimits() []int { return []int{-maxCoef, 1 - maxCoef, -1, 0, 1, 2, maxCoef - 1, maxCoef} }

func checkType(t *testing.T, x impl.Ring, want int) {
	t.Helper()
	got, ok := impl.ResidueType(x)
	if !ok || got != want {
		t.Errorf("ResidueType of %v: got %d, %v, want %d", x, got, ok, want)
	}
}

func TestResidueTypesInFull(t *testing.T) {
	cases := map[impl.Ring]int{
		ring(0, 0, 0, 0): 0, ring(1, 0, 1, 0): 0, ring(0, 1, 0, 1): 0, ring(1, 1, 1, 1): 0,
		ring(1, 0, 0, 0): 1, ring(0, 1, 0, 0): 1, ring(0, 0, 1, 0): 1, ring(0, 0, 0, 1): 1,
		ring(1, 1, 1, 0): 1, ring(1, 1, 0, 1): 1, ring(1, 0, 1, 1): 1, ring(0, 1, 1, 1): 1,
		ring(1, 1, 0, 0): 2, ring(0, 1, 1, 0): 2, ring(0, 0, 1, 1): 2, ring(1, 0, 0, 1): 2,
	}
	if len(cases) != 16 {
		t.Error("residues are missing")
	}
	for x, want := range cases {
		checkType(t, x, want)
		for _, y := range tuples([]int{-2, 0, 4}) {
			checkType(t, ring(x.A+y.A, x.B+y.B, x.C+y.C, x.D+y.D), want)
			checkType(t, ring(y.A-x.A, y.B+x.B, y.C-x.C, y.D-x.D), want)
		}
	}
}

func TestResidueTypeReference(t *testing.T) {
	get := must(t)
	for _, x := range append(tuples(nearLimits()), samples(2000, maxCoef)...) {
		want := plainType(exactOf(x))
		checkType(t, x, want)
		checkType(t, get(impl.Conjugate(x)), want)
		checkType(t, get(impl.Bullet(x)), want)
		for power := range 8 {
			checkType(t, get(impl.MulOmega(x, power)), want)
		}
		if root, ok := impl.MulRootTwo(x); ok {
			checkType(t, root, 0)
		}
	}
}

func checkPower(t *testing.T, x impl.Ring, y impl.Ring, want int) {
	t.Helper()
	got, ok := impl.MatchingPower(x, y)
	if !ok || got != want {
		t.Errorf("MatchingPower of %v and %v: got %d, %v, want %d", x, y, got, ok, want)
	}
}

func checkNoPower(t *testing.T, x impl.Ring, y impl.Ring) {
	t.Helper()
	got, ok := impl.MatchingPower(x, y)
	if ok || got != 0 {
		t.Errorf("MatchingPower of %v and %v: got %d, %v, want failure", x, y, got, ok)
	}
}

func TestMatchingPowersInFull(t *testing.T) {
	cases := []struct {
		x    impl.Ring
		y    impl.Ring
		want int
	}{
		{ring(1, 0, 0, 0), ring(1, 0, 0, 0), 0}, {ring(1, 0, 0, 0), ring(-1, 0, 0, 0), 0}, {ring(1, 0, 0, 0), ring(0, 1, 0, 0), 3}, {ring(1, 0, 0, 0), ring(0, 0, 1, 0), 2}, {ring(1, 0, 0, 0), ring(0, 0, 0, 1), 1},
		{ring(0, 1, 0, 0), ring(1, 0, 0, 0), 1}, {ring(0, 0, 0, 1), ring(1, 0, 0, 0), 3}, {ring(0, 0, 1, 0), ring(0, 0, 0, -5), 3},
		{ring(1, 1, 1, 0), ring(1, 0, 0, 0), 3}, {ring(1, 0, 0, 0), ring(1, 1, 1, 0), 1}, {ring(1, 1, 1, 0), ring(0, 0, 0, 1), 0}, {ring(0, 1, 1, 1), ring(1, 0, 0, 0), 0}, {ring(1, 0, 1, 1), ring(1, 0, 0, 0), 1},
		{ring(1, 1, 1, 0), ring(1, 1, 1, 0), 0}, {ring(1, 1, 1, 0), ring(0, 1, 1, 1), 3}, {ring(0, 1, 1, 1), ring(1, 1, 1, 0), 1}, {ring(1, -1, 1, 0), ring(1, 1, 0, 1), 1}, {ring(1, 0, 1, 1), ring(1, 1, 1, 0), 2},
		{ring(1, 1, 0, 0), ring(1, 1, 0, 0), 0}, {ring(1, 1, 0, 0), ring(-1, 1, 0, 0), 0}, {ring(1, 1, 0, 0), ring(0, 0, 1, 1), 2}, {ring(1, 1, 0, 0), ring(0, 1, 1, 0), 3}, {ring(1, 1, 0, 0), ring(1, 0, 0, 1), 1},
		{ring(0, 1, 1, 0), ring(1, 1, 0, 0), 1}, {ring(1, 0, 0, 1), ring(1, 1, 0, 0), 3}, {ring(3, 4, 6, -7), ring(-3, -5, 8, 2), 3},
	}
	for _, c := range cases {
		checkPower(t, c.x, c.y, c.want)
	}
}

// checkPowerReference tries all powers, and checks that the number found satisfies the condition.
func checkPowerReference(t *testing.T, x impl.Ring, y impl.Ring) bool {
	t.Helper()
	want, exists := plainPower(exactOf(x), exactOf(y))
	first, _ := impl.ResidueType(x)
	second, _ := impl.ResidueType(y)
	if exists != (first == second && first > 0) {
		t.Error("the types do not decide:", x, y)
	}
	if exists {
		checkPower(t, x, y, want)
	} else {
		checkNoPower(t, x, y)
	}
	return exists
}

func TestMatchingPowerOfAllResidues(t *testing.T) {
	found := 0
	residues := tuples([]int{0, 1})
	for _, x := range residues {
		for _, y := range residues {
			for _, z := range append(tuples([]int{-2, 0}), ring(maxCoef-2, 4, 0, 0), ring(0, -6, 2-maxCoef, maxCoef-2)) {
				shifted := ring(y.A+z.A, y.B+z.B, y.C+z.C, y.D+z.D)
				if checkPowerReference(t, x, shifted) {
					found++
				}
				checkPowerReference(t, shifted, x)
			}
		}
	}
	if found != (8*8+4*4)*18 {
		t.Error("the number of pairs is", found)
	}
}

// TestMatchingPowerAtTheLimits has sums that are not valid numbers, though their parities are all that counts.
func TestMatchingPowerAtTheLimits(t *testing.T) {
	checkPower(t, ring(maxCoef-1, 0, 0, 0), ring(maxCoef-1, 0, 0, 0), 0)
	checkPower(t, ring(maxCoef-1, maxCoef-1, maxCoef, maxCoef), ring(maxCoef, maxCoef-1, maxCoef-1, maxCoef), 3)
	checkPower(t, ring(1-maxCoef, 1-maxCoef, 1-maxCoef, -maxCoef), ring(-maxCoef, -maxCoef, -maxCoef, 1-maxCoef), 0)
	found := 0
	list := append(tuples([]int{-maxCoef, 1 - maxCoef, maxCoef - 1, maxCoef})[:200:200], samples(100, maxCoef)...)
	for k, x := range list {
		for l, y := range list {
			if (k+l)%3 == 0 && checkPowerReference(t, x, y) {
				found++
			}
		}
	}
	if found < 5000 {
		t.Error("few pairs match:", found)
	}
}

func TestResiduesOfInvalidNumbers(t *testing.T) {
	good := []impl.Ring{ring(1, 0, 0, 0), ring(1, 1, 0, 0), ring(1, 1, 1, 0), {}}
	for _, x := range invalidRings() {
		kind, ok := impl.ResidueType(x)
		checkNoNumber(t, "ResidueType", kind, ok)
		checkNoPower(t, x, x)
		for _, y := range good {
			checkNoPower(t, x, y)
			checkNoPower(t, y, x)
		}
	}
}

// TestResiduesOfAnyInts has the least and greatest integers in each place.
func TestResiduesOfAnyInts(t *testing.T) {
	for _, x := range tuples([]int{math.MinInt, math.MinInt + 1, -maxCoef - 1, -maxCoef, 0, 1, maxCoef, maxCoef + 1, math.MaxInt}) {
		if impl.IsValidRing(x) {
			checkType(t, x, plainType(exactOf(x)))
			checkPowerReference(t, x, ring(0, 0, 0, -1))
			checkPowerReference(t, ring(0, 3, 3, 0), x)
			continue
		}
		kind, ok := impl.ResidueType(x)
		checkNoNumber(t, "ResidueType", kind, ok)
		checkNoPower(t, x, ring(0, 0, 0, -1))
		checkNoPower(t, ring(0, 3, 3, 0), x)
		checkNoPower(t, x, x)
	}
}
