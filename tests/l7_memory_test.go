package tests

import (
	"slices"
	"testing"

	"loop.example/g00864/impl"
)

// guardedTableau is a tableau with spare capacity behind its lists, and copies of all of that memory.
type guardedTableau struct {
	of      impl.Tableau
	beforeX []impl.Pauli
	beforeZ []impl.Pauli
}

// guardTableau fills the spare capacity with operators that are not valid.
func guardTableau(of impl.Tableau) guardedTableau {
	spare := slices.Repeat([]impl.Pauli{{Phase: 77, X: -7, Z: 7}}, 16)
	x, z := slices.Concat(of.XImages, spare), slices.Concat(of.ZImages, spare)
	of.XImages, of.ZImages = x[:len(of.XImages)], z[:len(of.ZImages)]
	return guardedTableau{of, slices.Clone(x), slices.Clone(z)}
}

func (g guardedTableau) check(t *testing.T, what string) {
	t.Helper()
	x, z := g.of.XImages[:len(g.beforeX)], g.of.ZImages[:len(g.beforeZ)]
	if !slices.Equal(x, g.beforeX) || !slices.Equal(z, g.beforeZ) {
		t.Errorf("%s: an argument was changed: %v, %v, before %v, %v", what, x, z, g.beforeX, g.beforeZ)
	}
}

// spoilPaulis overwrites a list and all memory that can be reached through it.
func spoilPaulis(list []impl.Pauli) {
	all := list[:cap(list)]
	for k := range all {
		all[k] = impl.Pauli{Phase: -5, X: 555, Z: -555}
	}
}

// checkFreshTableau calls f three times and spoils the lists of its results one by one.
func checkFreshTableau(t *testing.T, what string, f func() (impl.Tableau, bool)) {
	t.Helper()
	first, ok := f()
	second, fine := f()
	if ok != fine || !sameTableau(first, second) {
		t.Error(what, "has two results")
	}
	kept := copyOf(second)
	spoilPaulis(first.XImages)
	if !slices.Equal(first.ZImages, kept.ZImages) || !sameTableau(second, kept) {
		t.Error(what, "shares memory with its list of images of X")
	}
	spoilPaulis(first.ZImages)
	if !sameTableau(second, kept) {
		t.Error(what, "shares memory of two results")
	}
	spoilPaulis(second.ZImages)
	if !slices.Equal(second.XImages, kept.XImages) {
		t.Error(what, "shares memory with its list of images of Z")
	}
	if third, ok := f(); ok != fine || !sameTableau(third, kept) {
		t.Error(what, "has another result after its results were spoilt:", third, ok)
	}
}

// tableauMemoryCases are valid and not valid tableaux, among them those that a composition can return unchanged.
func tableauMemoryCases(t *testing.T) []impl.Tableau {
	list := []impl.Tableau{{}, {Qubits: 1}, {Qubits: 6}, tableau("+X", "+X"), tableau("+iX", "+Z"), tableau("+XI +IX", "+ZI")}
	for n := 1; n <= maxQubits; n++ {
		list = append(list, validTableaux(t, n)...)
	}
	return list
}

func TestTableauResultsAreFresh(t *testing.T) {
	for n := -1; n <= maxQubits+1; n++ {
		checkFreshTableau(t, "IdentityTableau", func() (impl.Tableau, bool) { return impl.IdentityTableau(n) })
	}
	circuits := circuitMemoryCases()
	for n := 1; n <= maxQubits; n++ {
		circuits = append(circuits, circuit(n), circuit(n, gate(impl.GtW, 0, 0)), withoutT(circuit(n, validGates(n)...)), withoutT(sampleCircuit(n, 30, n)))
	}
	for _, c := range circuits {
		g := guardCircuit(c)
		checkFreshTableau(t, "TableauOf", func() (impl.Tableau, bool) { return impl.TableauOf(g.c) })
		g.check(t, "TableauOf")
		plain, ok := impl.TableauOf(c)
		guarded, fine := impl.TableauOf(g.c)
		if ok != fine || !sameTableau(plain, guarded) {
			t.Error("TableauOf reads gates behind the length:", c)
		}
	}
}

func TestTableauArgumentsAreUnchanged(t *testing.T) {
	for _, a := range tableauMemoryCases(t) {
		g := guardTableau(a)
		if impl.IsValidTableau(g.of) != impl.IsValidTableau(a) {
			t.Error("IsValidTableau reads images behind the length:", a)
		}
		for phase := -1; phase <= 4; phase++ {
			p := impl.Pauli{Phase: phase, X: 1, Z: 1}
			first, ok := impl.ImageOf(g.of, p)
			second, fine := impl.ImageOf(a, p)
			if first != second || ok != fine {
				t.Error("ImageOf has two results:", a, p)
			}
		}
		checkFreshTableau(t, "InvertTableau", func() (impl.Tableau, bool) { return impl.InvertTableau(g.of) })
		checkFreshTableau(t, "ComposeTableaux twice", func() (impl.Tableau, bool) { return impl.ComposeTableaux(g.of, g.of) })
		g.check(t, "a function of one tableau")
		for _, b := range tableauMemoryCases(t) {
			h := guardTableau(b)
			checkFreshTableau(t, "ComposeTableaux", func() (impl.Tableau, bool) { return impl.ComposeTableaux(g.of, h.of) })
			plain, ok := impl.ComposeTableaux(a, b)
			guarded, fine := impl.ComposeTableaux(g.of, h.of)
			if ok != fine || !sameTableau(plain, guarded) {
				t.Error("ComposeTableaux reads images behind the length:", a, b)
			}
			g.check(t, "ComposeTableaux in front")
			h.check(t, "ComposeTableaux behind")
		}
	}
}

// TestTableauWithListsInOneArray has the images of Z in the spare capacity of those of X.
func TestTableauWithListsInOneArray(t *testing.T) {
	for n := 1; n <= maxQubits; n++ {
		for _, of := range validTableaux(t, n) {
			all := slices.Concat(of.XImages, of.ZImages)
			before, joined := slices.Clone(all), impl.Tableau{Qubits: n, XImages: all[:n], ZImages: all[n:]}
			if !impl.IsValidTableau(joined) {
				t.Error("not valid:", joined)
			}
			inverse := checkInverse(t, joined)
			want, ok := impl.InvertTableau(of)
			checkTableau(t, "InvertTableau", inverse, ok, want)
			checkFreshTableau(t, "InvertTableau", func() (impl.Tableau, bool) { return impl.InvertTableau(joined) })
			checkFreshTableau(t, "ComposeTableaux", func() (impl.Tableau, bool) { return impl.ComposeTableaux(joined, joined) })
			if !slices.Equal(all, before) {
				t.Error("an argument was changed:", all, before)
			}
			// One list for both kinds of images is never valid, and not changed either.
			twice := impl.Tableau{Qubits: n, XImages: all[:n], ZImages: all[:n]}
			got, ok := impl.InvertTableau(twice)
			checkNoTableau(t, "InvertTableau of one list", got, ok)
			got, ok = impl.ComposeTableaux(twice, joined)
			checkNoTableau(t, "ComposeTableaux of one list", got, ok)
			if impl.IsValidTableau(twice) || !slices.Equal(all, before) {
				t.Error("one list for both kinds of images:", twice)
			}
		}
	}
}

func TestTableauWithNilLists(t *testing.T) {
	for n := -1; n <= maxQubits+1; n++ {
		for _, of := range []impl.Tableau{{Qubits: n}, {Qubits: n, XImages: []impl.Pauli{}}, {Qubits: n, XImages: []impl.Pauli{}, ZImages: []impl.Pauli{}}} {
			if impl.IsValidTableau(of) {
				t.Error("valid:", of)
			}
			got, ok := impl.InvertTableau(of)
			checkNoTableau(t, "InvertTableau", got, ok)
			got, ok = impl.ComposeTableaux(of, of)
			checkNoTableau(t, "ComposeTableaux", got, ok)
			p, ok := impl.ImageOf(of, impl.Pauli{})
			checkNoPauli(t, "ImageOf", p, ok)
		}
	}
	for n := 1; n <= maxQubits; n++ {
		got, ok := impl.TableauOf(impl.Circuit{Qubits: n, Gates: []impl.Gate{}})
		checkTableau(t, "TableauOf empty gates", got, ok, generators(n))
	}
}

func TestPauliMatricesAreFresh(t *testing.T) {
	for n := 0; n <= maxQubits+1; n++ {
		for _, p := range []impl.Pauli{{}, {X: 1}, {Phase: 3, X: 1, Z: 1}, {Z: 1}, {Phase: 4}} {
			checkFreshMatrix(t, "PauliMatrix", func() (impl.Matrix, bool) { return impl.PauliMatrix(n, p) })
		}
	}
}
