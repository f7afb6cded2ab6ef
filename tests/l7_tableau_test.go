package tests

import (
	"slices"
	"strings"
	"testing"

	"loop.example/g00864/impl"
)

// tableau reads the images of X and those of Z, separated by blanks.
func tableau(xs string, zs string) impl.Tableau {
	t := impl.Tableau{Qubits: len(strings.Fields(xs))}
	for _, text := range strings.Fields(xs) {
		t.XImages = append(t.XImages, pauli(text))
	}
	for _, text := range strings.Fields(zs) {
		t.ZImages = append(t.ZImages, pauli(text))
	}
	return t
}

// generators is the tableau of the identity.
func generators(n int) impl.Tableau {
	t := impl.Tableau{Qubits: n}
	for q := range n {
		t.XImages = append(t.XImages, impl.Pauli{X: []int{1, 2, 4, 8, 16}[q]})
		t.ZImages = append(t.ZImages, impl.Pauli{Z: []int{1, 2, 4, 8, 16}[q]})
	}
	return t
}

func sameTableau(a impl.Tableau, b impl.Tableau) bool {
	return a.Qubits == b.Qubits && slices.Equal(a.XImages, b.XImages) && slices.Equal(a.ZImages, b.ZImages)
}

func checkTableau(t *testing.T, what string, got impl.Tableau, ok bool, want impl.Tableau) {
	t.Helper()
	if !ok || !sameTableau(got, want) {
		t.Errorf("%s: got %v, %v, want %v", what, got, ok, want)
	}
}

// checkNoTableau checks that a call failed and that its result is zero.
func checkNoTableau(t *testing.T, what string, got impl.Tableau, ok bool) {
	t.Helper()
	if ok || got.Qubits != 0 || len(got.XImages) != 0 || len(got.ZImages) != 0 {
		t.Errorf("%s: got %v, %v, want failure", what, got, ok)
	}
}

// mustTableau returns a function that unwraps a call that must succeed.
func mustTableau(t *testing.T) func(impl.Tableau, bool) impl.Tableau {
	return func(got impl.Tableau, ok bool) impl.Tableau {
		t.Helper()
		if !ok || !impl.IsValidTableau(got) {
			t.Error("a call failed or its result is not valid:", got, ok)
		}
		return got
	}
}

// mustPauli unwraps an operator on n qubits that must exist.
func mustPauli(t *testing.T, n int) func(impl.Pauli, bool) impl.Pauli {
	return func(p impl.Pauli, ok bool) impl.Pauli {
		t.Helper()
		if !ok || !impl.IsValidPauli(n, p) {
			t.Error("a call failed or its result is not valid:", p, ok)
		}
		return p
	}
}

// withoutT removes the gates that are not of Clifford operators.
func withoutT(c impl.Circuit) impl.Circuit {
	isT := func(g impl.Gate) bool { return g.Kind == impl.GtT || g.Kind == impl.GtTdg }
	return circuit(c.Qubits, slices.DeleteFunc(slices.Clone(c.Gates), isT)...)
}

// cliffordCircuits have no gates, one gate, every gate and many gates, all of them with tableaux.
func cliffordCircuits(n int) []impl.Circuit {
	list := []impl.Circuit{circuit(n), withoutT(circuit(n, validGates(n)...)), withoutT(sampleCircuit(n, maxGates, n))}
	for _, g := range withoutT(circuit(n, validGates(n)...)).Gates {
		list = append(list, circuit(n, g))
	}
	for count := 2; count <= 42; count += 5 {
		list = append(list, withoutT(sampleCircuit(n, count, count*n)))
	}
	return list
}

func TestTableauExamples(t *testing.T) {
	get, image := mustTableau(t), mustPauli(t, 1)
	h, s := get(impl.TableauOf(circuitOf(1, "H 0"))), get(impl.TableauOf(circuitOf(1, "S 0")))
	checkTableau(t, "H", h, true, tableau("+Z", "+X"))
	checkPauli(t, "the image of Y under H", image(impl.ImageOf(h, pauli("+Y"))), true, pauli("-Y"))
	twice := get(impl.ComposeTableaux(s, s))
	checkPauli(t, "the image of X under S twice", twice.XImages[0], true, pauli("-X"))
	checkPauli(t, "the image of Z under S twice", twice.ZImages[0], true, pauli("+Z"))
}

func TestTableauOfInFull(t *testing.T) {
	cases := []struct {
		n      int
		gates  string
		xs, zs string
	}{
		{1, "", "+X", "+Z"},
		{1, "H 0", "+Z", "+X"},
		{1, "X 0", "+X", "-Z"},
		{1, "Y 0", "-X", "-Z"},
		{1, "Z 0", "-X", "+Z"},
		{1, "S 0", "+Y", "+Z"},
		{1, "S' 0", "-Y", "+Z"},
		{1, "W", "+X", "+Z"},
		{2, "H 1", "+XI +IZ", "+ZI +IX"},
		{2, "S 1", "+XI +IY", "+ZI +IZ"},
		{2, "CX 0 1", "+XX +IX", "+ZI +ZZ"},
		{2, "CX 1 0", "+XI +XX", "+ZZ +IZ"},
		{2, "CZ 0 1", "+XZ +ZX", "+ZI +IZ"},
		{2, "CZ 1 0", "+XZ +ZX", "+ZI +IZ"},
		{2, "SWAP 0 1", "+IX +XI", "+IZ +ZI"},
		{2, "SWAP 1 0", "+IX +XI", "+IZ +ZI"},
		{3, "S' 2", "+XII +IXI -IIY", "+ZII +IZI +IIZ"},
		{3, "CX 2 0", "+XII +IXI +XIX", "+ZIZ +IZI +IIZ"},
		{3, "CX 0 2", "+XIX +IXI +IIX", "+ZII +IZI +ZIZ"},
		{3, "CZ 1 2", "+XII +IXZ +IZX", "+ZII +IZI +IIZ"},
		{5, "SWAP 1 4", "+XIIII +IIIIX +IIXII +IIIXI +IXIII", "+ZIIII +IIIIZ +IIZII +IIIZI +IZIII"},
		{1, "H 0, S 0", "+Z", "+Y"},
		{1, "S 0, H 0", "-Y", "+X"},
		{1, "S 0, W, W, W, H 0", "-Y", "+X"},
		{1, "S 0, S 0", "-X", "+Z"},
		{1, "H 0, S 0, H 0", "+X", "-Y"},
		{1, "H 0, X 0, H 0", "-X", "+Z"},
		{2, "H 0, CX 0 1", "+ZI +IX", "+XX +ZZ"},
		{2, "CX 0 1, H 0", "+ZX +IX", "+XI +XZ"},
		{2, "S 1, CX 0 1", "+XX +ZY", "+ZI +ZZ"},
		{2, "S 0, S 1, CX 0 1", "+YX +ZY", "+ZI +ZZ"},
		{2, "CX 0 1, S 0, S 1", "+YY +IY", "+ZI +ZZ"},
		{2, "CZ 0 1, CX 0 1", "-YY +ZX", "+ZI +ZZ"},
		{3, "CX 0 1, CX 1 2", "+XXX +IXX +IIX", "+ZII +ZZI +IZZ"},
		{3, "CX 1 2, CX 0 1", "+XXI +IXX +IIX", "+ZII +ZZI +ZZZ"},
	}
	for _, c := range cases {
		texts := strings.FieldsFunc(c.gates, func(r rune) bool { return r == ',' })
		got, ok := impl.TableauOf(circuitOf(c.n, texts...))
		checkTableau(t, "TableauOf "+c.gates, got, ok, tableau(c.xs, c.zs))
	}
}

// TestIdentityTableau has each number of qubits from -1 to MaxQubits + 1, and others that are far away.
func TestIdentityTableau(t *testing.T) {
	for n := 1; n <= maxQubits; n++ {
		got, ok := impl.IdentityTableau(n)
		checkTableau(t, "IdentityTableau", got, ok, generators(n))
		if !impl.IsValidTableau(got) {
			t.Error("not valid:", got)
		}
		got, ok = impl.TableauOf(circuit(n))
		checkTableau(t, "TableauOf no gates", got, ok, generators(n))
	}
	got, ok := impl.IdentityTableau(3)
	checkTableau(t, "IdentityTableau", got, ok, tableau("+XII +IXI +IIX", "+ZII +IZI +IIZ"))
	for _, n := range invalidQubitCounts() {
		got, ok := impl.IdentityTableau(n)
		checkNoTableau(t, "IdentityTableau", got, ok)
	}
}

// TestImagesInFull has operators with each letter and phase.
func TestImagesInFull(t *testing.T) {
	cases := []struct {
		gates       string
		p, want     string
		alsoInverse bool
	}{
		{"H 0", "+X", "+Z", true}, {"H 0", "+Y", "-Y", true}, {"H 0", "-iY", "+iY", true}, {"H 0", "+iZ", "+iX", true},
		{"S 0", "+X", "+Y", false}, {"S 0", "+Y", "-X", false}, {"S 0", "-iY", "+iX", false}, {"S 0", "+Z", "+Z", true},
		{"S' 0", "+X", "-Y", false}, {"S' 0", "+Y", "+X", false}, {"S' 0", "-Y", "-X", false},
		{"X 0", "+Y", "-Y", true}, {"X 0", "-Z", "+Z", true}, {"Y 0", "+Y", "+Y", true}, {"Y 0", "+iX", "-iX", true}, {"Z 0", "+Y", "-Y", true},
		{"W", "-iY", "-iY", true}, {"H 0", "-I", "-I", true}, {"H 0, S 0", "+Y", "+X", false},
		{"CX 0 1", "+YI", "+YX", true}, {"CX 0 1", "+IY", "+ZY", true}, {"CX 0 1", "+YY", "-XZ", true}, {"CX 0 1", "+XZ", "-YY", true},
		{"CX 0 1", "+XX", "+XI", true}, {"CX 0 1", "+ZZ", "+IZ", true}, {"CX 0 1", "+XY", "+YZ", true}, {"CX 0 1", "-iZX", "-iZX", true},
		{"CX 1 0", "+YY", "-ZX", true}, {"CX 1 0", "+YI", "+YZ", true},
		{"CZ 0 1", "+XX", "+YY", true}, {"CZ 0 1", "+XY", "-YX", true}, {"CZ 1 0", "+YI", "+YZ", true}, {"CZ 0 1", "+iYY", "+iXX", true},
		{"SWAP 0 1", "+XY", "+YX", true}, {"SWAP 1 0", "-iIZ", "-iZI", true},
		{"SWAP 0 2", "-XYZ", "-ZYX", true}, {"CX 2 0", "+IZX", "+XZX", true}, {"CZ 0 4", "+XIIIX", "+YIIIY", true},
	}
	for _, c := range cases {
		n := len(strings.TrimLeft(c.p, "+-i"))
		of, ok := impl.TableauOf(circuitOf(n, strings.FieldsFunc(c.gates, func(r rune) bool { return r == ',' })...))
		got, fine := impl.ImageOf(of, pauli(c.p))
		checkPauli(t, "ImageOf "+c.p+" under "+c.gates, got, ok && fine, pauli(c.want))
		if c.alsoInverse {
			got, fine = impl.ImageOf(of, pauli(c.want))
			checkPauli(t, "ImageOf "+c.want+" under "+c.gates, got, fine, pauli(c.p))
		}
	}
}

func TestComposeInFull(t *testing.T) {
	cases := []struct {
		n             int
		first, second string
		xs, zs        string
	}{
		{1, "S 0", "S 0", "-X", "+Z"},
		{1, "S 0", "S' 0", "+X", "+Z"},
		{1, "H 0", "S 0", "+Z", "+Y"},
		{1, "S 0", "H 0", "-Y", "+X"},
		{1, "H 0", "Y 0", "-Z", "-X"},
		{2, "H 0", "CX 0 1", "+ZI +IX", "+XX +ZZ"},
		{2, "CX 0 1", "H 0", "+ZX +IX", "+XI +XZ"},
		{2, "CX 0 1", "CZ 0 1", "+YY +ZX", "+ZI +ZZ"},
		{2, "CX 0 1", "CX 1 0", "+IX +XX", "+ZZ +ZI"},
		{3, "SWAP 0 1", "CX 0 2", "+IXI +XIX +IIX", "+IZI +ZII +ZIZ"},
		{3, "CX 0 2", "SWAP 0 1", "+IXX +XII +IIX", "+IZI +ZII +IZZ"},
	}
	get := mustTableau(t)
	for _, c := range cases {
		first, second := get(impl.TableauOf(circuitOf(c.n, c.first))), get(impl.TableauOf(circuitOf(c.n, c.second)))
		got, ok := impl.ComposeTableaux(first, second)
		checkTableau(t, "ComposeTableaux of "+c.first+" and "+c.second, got, ok, tableau(c.xs, c.zs))
	}
}

func TestInvertInFull(t *testing.T) {
	cases := []struct{ xs, zs, wantXs, wantZs string }{
		{"+X", "+Z", "+X", "+Z"},
		{"+Z", "+X", "+Z", "+X"},
		{"+Y", "+Z", "-Y", "+Z"},
		{"-Y", "+Z", "+Y", "+Z"},
		{"-X", "-Z", "-X", "-Z"},
		{"+Z", "+Y", "+Y", "+X"},
		{"-Y", "+X", "+Z", "-Y"},
		{"+Y", "+X", "+Z", "+Y"},
		{"+XX +IX", "+ZI +ZZ", "+XX +IX", "+ZI +ZZ"},
		{"+ZI +IX", "+XX +ZZ", "+ZX +IX", "+XI +XZ"},
		{"+YY +ZX", "+ZI +ZZ", "-YY +ZX", "+ZI +ZZ"},
		{"+IX +XX", "+ZZ +ZI", "+XX +XI", "+IZ +ZZ"},
		{"+IXI +IIX +XII", "+IZI +IIZ +ZII", "+IIX +XII +IXI", "+IIZ +ZII +IZI"},
	}
	for _, c := range cases {
		got, ok := impl.InvertTableau(tableau(c.xs, c.zs))
		checkTableau(t, "InvertTableau of "+c.xs+" and "+c.zs, got, ok, tableau(c.wantXs, c.wantZs))
	}
}
