package tests

import (
	"slices"
	"testing"

	"loop.example/g00864/impl"
)

// renamings lists all lists of k different qubits of n.
func renamings(k int, n int) [][]int {
	lists := [][]int{{}}
	for range k {
		var longer [][]int
		for _, list := range lists {
			for q := range n {
				if !slices.Contains(list, q) {
					longer = append(longer, append(slices.Clone(list), q))
				}
			}
		}
		lists = longer
	}
	return lists
}

// renamed replaces the qubits that the gates act on, without the function that is tested.
func renamed(c impl.Circuit, to []int, n int) impl.Circuit {
	result := circuit(n)
	for _, g := range c.Gates {
		acts := gateKinds()[g.Kind-1].qubits
		if acts >= 1 {
			g.A = to[g.A]
		}
		if acts == 2 {
			g.B = to[g.B]
		}
		result.Gates = append(result.Gates, g)
	}
	return result
}

// completed extends a list of different qubits of n to all of them.
func completed(to []int, n int) []int {
	all := slices.Clone(to)
	for q := range n {
		if !slices.Contains(all, q) {
			all = append(all, q)
		}
	}
	return all
}

// undoing returns the inverse of a list of all qubits.
func undoing(to []int) []int {
	back := make([]int, len(to))
	for q, image := range to {
		back[image] = q
	}
	return back
}

func checkSameCounts(t *testing.T, a impl.Circuit, b impl.Circuit) {
	t.Helper()
	ts, ok := impl.CountT(a)
	got, fine := impl.CountT(b)
	twos, sure := impl.CountTwo(a)
	other, safe := impl.CountTwo(b)
	first, known := impl.IsClifford(a)
	second, told := impl.IsClifford(b)
	if !ok || !fine || !sure || !safe || !known || !told || ts != got || twos != other || first != second || len(a.Gates) != len(b.Gates) {
		t.Error("the counts differ:", a, b)
	}
}

// TestMapQubitsEverywhere takes every list of qubits for every number of qubits before and after.
func TestMapQubitsEverywhere(t *testing.T) {
	for k := 1; k <= maxQubits; k++ {
		c := circuit(k, append(validGates(k), sampleCircuit(k, 20, k).Gates...)...)
		for n := 1; n <= maxQubits; n++ {
			for _, to := range renamings(k, n) {
				got, ok := impl.MapQubits(c, to, n)
				checkCircuit(t, "MapQubits", got, ok, renamed(c, to, n))
				if !impl.IsValidCircuit(got) {
					t.Error("not valid:", got)
				}
				checkSameCounts(t, c, got)
				undone, ok := impl.MapQubits(got, undoing(completed(to, n)), n)
				checkCircuit(t, "the renaming undone", undone, ok, circuit(n, c.Gates...))
			}
		}
	}
}

func TestMapQubitsComposes(t *testing.T) {
	c := sampleCircuit(3, 60, 5)
	for _, to := range renamings(3, 4) {
		first, ok := impl.MapQubits(c, to, 4)
		if !ok {
			t.Fatal("not renamed:", to)
		}
		for _, next := range renamings(4, 4) {
			second, ok := impl.MapQubits(first, next, 4)
			want, fine := impl.MapQubits(c, []int{next[to[0]], next[to[1]], next[to[2]]}, 4)
			if !fine {
				t.Error("not renamed at once:", to, next)
			}
			checkCircuit(t, "two renamings", second, ok, want)
		}
	}
}

func TestMapQubitsWrongLists(t *testing.T) {
	for k := 1; k <= maxQubits; k++ {
		// A circuit without gates needs no list, but its list must be right as well.
		for _, c := range []impl.Circuit{circuit(k), sampleCircuit(k, 9, k), circuit(k, gate(impl.GtW, 0, 0))} {
			for n := 1; n <= maxQubits; n++ {
				for _, to := range renamings(min(k, n), n) {
					checkWrongLists(t, c, to, n)
				}
			}
		}
	}
}

// checkWrongLists spoils a list of different qubits of n in every way.
func checkWrongLists(t *testing.T, c impl.Circuit, to []int, n int) {
	t.Helper()
	if len(to) < c.Qubits {
		checkNotMapped(t, c, to, n)
		checkNotMapped(t, c, append(slices.Clone(to), to[0]), n)
		checkNotMapped(t, c, append(slices.Clone(to), n), n)
		return
	}
	// The missing qubit is in the spare capacity.
	checkNotMapped(t, c, to[:len(to)-1], n)
	checkNotMapped(t, c, nil, n)
	for q := -1; q <= n; q++ {
		checkNotMapped(t, c, append(slices.Clone(to), q), n)
	}
	for place := range to {
		for _, q := range append(notQubits(n), to...) {
			spoilt := slices.Clone(to)
			spoilt[place] = q
			if q != to[place] {
				checkNotMapped(t, c, spoilt, n)
			}
		}
	}
}

func checkNotMapped(t *testing.T, c impl.Circuit, to []int, n int) {
	t.Helper()
	got, ok := impl.MapQubits(c, to, n)
	if ok || got.Qubits != 0 || len(got.Gates) != 0 {
		t.Error("renamed:", c, to, n, got, ok)
	}
}

func TestMapQubitsNumbersOfQubits(t *testing.T) {
	for k := 1; k <= maxQubits; k++ {
		c, to := sampleCircuit(k, 12, k), []int{0, 1, 2, 3, 4}[:k]
		for n := 1; n < k; n++ {
			checkNotMapped(t, c, to, n)
			checkNotMapped(t, c, to[:n], n)
		}
		for n := k; n <= maxQubits; n++ {
			got, ok := impl.MapQubits(c, to, n)
			checkCircuit(t, "MapQubits to itself", got, ok, circuit(n, c.Gates...))
		}
		for _, n := range invalidQubitCounts() {
			checkNotMapped(t, c, to, n)
			checkNotMapped(t, circuit(k), to, n)
		}
	}
	long := make([]int, 1<<16)
	checkNotMapped(t, circuit(1), long, 1)
	checkNotMapped(t, circuit(5), long, 5)
}
