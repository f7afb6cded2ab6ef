package tests

import (
	"math"
	"slices"
	"testing"

	"loop.example/g00864/impl"
)

// invalidPaulis are not valid on n qubits: one of the fields is wrong.
func invalidPaulis(n int) []impl.Pauli {
	var list []impl.Pauli
	for _, p := range []impl.Pauli{{}, {X: 1}, {Z: 1 << (n - 1)}, {Phase: 3, X: 1<<n - 1, Z: 1<<n - 1}} {
		for _, phase := range append([]int{-1, 4, 5, -2, -4, 6, 8}, farInts()...) {
			wrong := p
			wrong.Phase = phase
			list = append(list, wrong)
		}
		for _, set := range append([]int{-1, 1 << n, -2, -1 << n, 1<<n + 1, 2 << n, 2<<n - 1}, farInts()...) {
			first, second := p, p
			first.X, second.Z = set, set
			list = append(list, first, second, impl.Pauli{Phase: p.Phase, X: set, Z: set})
		}
	}
	return list
}

// checkInvalidPauli calls every function that has an operator and a number of qubits as arguments.
func checkInvalidPauli(t *testing.T, n int, p impl.Pauli) {
	t.Helper()
	if impl.IsValidPauli(n, p) {
		t.Error("valid on", n, "qubits:", p)
	}
	for _, other := range []impl.Pauli{{}, {Phase: 2, X: 1, Z: 1}, p} {
		got, ok := impl.MulPauli(n, p, other)
		checkNoPauli(t, "MulPauli in front", got, ok)
		got, ok = impl.MulPauli(n, other, p)
		checkNoPauli(t, "MulPauli behind", got, ok)
		commute, ok := impl.Commute(n, p, other)
		checkAnswer(t, "Commute in front", commute, ok, false, false)
		commute, ok = impl.Commute(n, other, p)
		checkAnswer(t, "Commute behind", commute, ok, false, false)
	}
	text, ok := impl.FormatPauli(n, p)
	checkText(t, "FormatPauli", text, ok, "", false)
	m, ok := impl.PauliMatrix(n, p)
	checkNoMatrix(t, "PauliMatrix", m, ok)
}

func TestPauliInvalid(t *testing.T) {
	for n := 1; n <= maxQubits; n++ {
		for _, p := range invalidPaulis(n) {
			checkInvalidPauli(t, n, p)
			got, ok := impl.ImageOf(generators(n), p)
			checkNoPauli(t, "ImageOf", got, ok)
		}
	}
	for _, n := range invalidQubitCounts() {
		for _, p := range []impl.Pauli{{}, {X: 1}, {Z: 1}, {Phase: 3, X: 1, Z: 1}, {X: n}, {Phase: n, X: n, Z: n}, {X: 1 << 5}, {Z: math.MaxInt}} {
			checkInvalidPauli(t, n, p)
		}
	}
}

// TestPauliValidityInAGrid holds IsValidPauli against the bounds of all fields.
func TestPauliValidityInAGrid(t *testing.T) {
	for n := -2; n <= maxQubits+3; n++ {
		size, count := 0, 0
		if n >= 1 && n <= maxQubits {
			size = []int{0, 2, 4, 8, 16, 32}[n]
		}
		for phase := -3; phase <= 7; phase++ {
			for x := -3; x <= 70; x++ {
				for z := -3; z <= 70; z++ {
					want := phase >= 0 && phase <= 3 && x >= 0 && x < size && z >= 0 && z < size
					if got := impl.IsValidPauli(n, impl.Pauli{Phase: phase, X: x, Z: z}); got != want {
						t.Error("validity on", n, "qubits:", phase, x, z, got)
					} else if got {
						count++
					}
				}
			}
		}
		if count != 4*size*size {
			t.Error("number of operators on", n, "qubits:", count)
		}
	}
}

// TestPauliOfTheLastQubit has operators that are valid only if there are enough qubits.
func TestPauliOfTheLastQubit(t *testing.T) {
	for n := 1; n <= maxQubits; n++ {
		for m := 1; m <= maxQubits; m++ {
			p := impl.Pauli{Phase: 1, X: 1 << (m - 1), Z: 1 << (m - 1)}
			if m > n {
				checkInvalidPauli(t, n, p)
				continue
			}
			got, ok := impl.MulPauli(n, p, p)
			checkPauli(t, "MulPauli", got, ok, impl.Pauli{Phase: 2})
			_, sound := impl.FormatPauli(n, p)
			_, exists := impl.PauliMatrix(n, p)
			_, image := impl.ImageOf(generators(n), p)
			if !impl.IsValidPauli(n, p) || !sound || !exists || !image {
				t.Error("not valid on", n, "qubits:", p)
			}
		}
	}
}

// copyOf is a tableau with other memory.
func copyOf(of impl.Tableau) impl.Tableau {
	return impl.Tableau{Qubits: of.Qubits, XImages: slices.Clone(of.XImages), ZImages: slices.Clone(of.ZImages)}
}

// xorOf has the letters of a product and the sign +, which does not matter to the question whether operators commute.
func xorOf(a impl.Pauli, b impl.Pauli) impl.Pauli {
	return impl.Pauli{X: a.X ^ b.X, Z: a.Z ^ b.Z}
}

// brokenPairs change one image of a valid tableau such that exactly one pair breaks the commutation rules.
func brokenPairs(of impl.Tableau) []impl.Tableau {
	var list []impl.Tableau
	for q := range of.Qubits {
		x, z := copyOf(of), copyOf(of)
		// I and the image of the other generator on the qubit commute with each image that the generator's own image commutes with.
		x.XImages[q], z.ZImages[q] = impl.Pauli{}, impl.Pauli{}
		list = append(list, x, z)
		x, z = copyOf(of), copyOf(of)
		x.XImages[q], z.ZImages[q] = of.ZImages[q], of.XImages[q]
		list = append(list, x, z)
		for r := range of.Qubits {
			if r == q {
				continue
			}
			// A factor that belongs to qubit r breaks the rule for one image of that qubit.
			xx, xz, zx, zz := copyOf(of), copyOf(of), copyOf(of), copyOf(of)
			xx.XImages[q] = xorOf(of.XImages[q], of.ZImages[r])
			xz.XImages[q] = xorOf(of.XImages[q], of.XImages[r])
			zx.ZImages[q] = xorOf(of.ZImages[q], of.ZImages[r])
			zz.ZImages[q] = xorOf(of.ZImages[q], of.XImages[r])
			list = append(list, xx, xz, zx, zz)
		}
	}
	return list
}

// brokenImages have one image that is not valid or not Hermitian.
func brokenImages(of impl.Tableau) []impl.Tableau {
	var list []impl.Tableau
	for q := range of.Qubits {
		for _, wrong := range invalidPaulis(of.Qubits) {
			x, z := copyOf(of), copyOf(of)
			x.XImages[q], z.ZImages[q] = wrong, wrong
			list = append(list, x, z)
		}
		for _, phase := range append([]int{1, 3, -1, -2, 4, 6}, farInts()...) {
			x, z := copyOf(of), copyOf(of)
			x.XImages[q].Phase, z.ZImages[q].Phase = phase, phase
			list = append(list, x, z)
		}
		for _, far := range []int{1 << of.Qubits, 1 << 6, math.MinInt, 1 << 32} {
			// The low bits are right.
			x, z := copyOf(of), copyOf(of)
			x.XImages[q].X += far
			z.ZImages[q].Z += far
			list = append(list, x, z)
		}
	}
	return list
}

// brokenLists have lists that are too short or too long, or another number of qubits.
func brokenLists(of impl.Tableau) []impl.Tableau {
	n, x, z := of.Qubits, of.XImages, of.ZImages
	list := []impl.Tableau{{Qubits: n}, {Qubits: n, XImages: x}, {Qubits: n, ZImages: z}}
	for _, wrong := range append(invalidQubitCounts(), n-1, n+1) {
		list = append(list, impl.Tableau{Qubits: wrong, XImages: x, ZImages: z}, impl.Tableau{Qubits: wrong})
	}
	twice := slices.Concat(x, x)
	// In the shorter lists, the missing images are in the spare capacity.
	for _, other := range [][]impl.Pauli{x[:n-1], append(slices.Clone(x), impl.Pauli{}), append(slices.Clone(x), z[0]), twice, slices.Repeat(twice, 500)} {
		list = append(list, impl.Tableau{Qubits: n, XImages: other, ZImages: z}, impl.Tableau{Qubits: n, XImages: x, ZImages: other})
		list = append(list, impl.Tableau{Qubits: n, XImages: other, ZImages: other})
	}
	// Joined, these lists have the images of all generators in order; the longer ones also have an image that keeps the rules at its place.
	for _, all := range [][]impl.Pauli{slices.Concat(x, z), slices.Concat(x, z, x[:1])} {
		for length := range len(all) + 1 {
			if length != n || len(all) != 2*n {
				list = append(list, impl.Tableau{Qubits: n, XImages: all[:length], ZImages: all[length:]})
			}
		}
	}
	return list
}

// validTableaux have the generators, or images with many letters and signs.
func validTableaux(t *testing.T, n int) []impl.Tableau {
	unwrap := mustTableau(t)
	return []impl.Tableau{generators(n), unwrap(impl.TableauOf(withoutT(sampleCircuit(n, 60, n)))), unwrap(impl.TableauOf(withoutT(sampleCircuit(n, 85, n+7))))}
}

// invalidTableaux are broken in one way each.
func invalidTableaux(t *testing.T) []impl.Tableau {
	list := []impl.Tableau{{}}
	for n := 1; n <= maxQubits; n++ {
		for _, of := range validTableaux(t, n) {
			list = append(list, slices.Concat(brokenPairs(of), brokenImages(of), brokenLists(of))...)
		}
	}
	return list
}

// TestBrokenPairsAreSingle finds the pairs of images that break the rules in the cases of brokenPairs.
func TestBrokenPairsAreSingle(t *testing.T) {
	for n := 1; n <= maxQubits; n++ {
		for _, of := range validTableaux(t, n) {
			pairs := map[[2]int]bool{}
			for _, broken := range brokenPairs(of) {
				images, count := slices.Concat(broken.XImages, broken.ZImages), 0
				for i, a := range images {
					for j, b := range images[:i] {
						if commute, ok := impl.Commute(n, a, b); !ok || commute == (i-j == n) {
							pairs[[2]int{j, i}] = true
							count++
						}
					}
				}
				if count != 1 {
					t.Error("pairs that break the rules:", count, broken)
				}
			}
			if len(pairs) != n*(2*n-1) {
				t.Error("pairs that break the rules somewhere:", n, pairs)
			}
		}
	}
}

func TestTableauInvalid(t *testing.T) {
	for _, of := range invalidTableaux(t) {
		if impl.IsValidTableau(of) {
			t.Error("valid:", of)
		}
		got, ok := impl.InvertTableau(of)
		checkNoTableau(t, "InvertTableau", got, ok)
		for _, p := range []impl.Pauli{{}, {X: 1}, {Phase: 3, Z: 1}, {Phase: 9}} {
			image, ok := impl.ImageOf(of, p)
			checkNoPauli(t, "ImageOf", image, ok)
		}
		got, ok = impl.ComposeTableaux(of, of)
		checkNoTableau(t, "ComposeTableaux twice", got, ok)
		for _, n := range []int{1, 2, 5, min(max(of.Qubits, 1), maxQubits)} {
			got, ok = impl.ComposeTableaux(of, generators(n))
			checkNoTableau(t, "ComposeTableaux in front", got, ok)
			got, ok = impl.ComposeTableaux(generators(n), of)
			checkNoTableau(t, "ComposeTableaux behind", got, ok)
		}
	}
}

// TestTableauValidityOfSigns has each choice of signs, which are all valid.
func TestTableauValidityOfSigns(t *testing.T) {
	for n := 1; n <= maxQubits; n++ {
		for _, of := range validTableaux(t, n) {
			for signs := range 1 << (2 * n) {
				changed := copyOf(of)
				for q := range n {
					changed.XImages[q].Phase = signs >> q & 1 * 2
					changed.ZImages[q].Phase = signs >> (n + q) & 1 * 2
				}
				if !impl.IsValidTableau(changed) {
					t.Error("not valid:", changed)
				}
			}
		}
	}
}

// TestTableauValidityOfLetters has any images on one and two qubits, one of them with each phase.
func TestTableauValidityOfLetters(t *testing.T) {
	for n := 1; n <= 2; n++ {
		count := 0
		for k, letters := range imageLetters(n) {
			follow := followRules(letters)
			for phase := range 4 {
				of := signed(letters, k%16)
				[]*impl.Pauli{&of.XImages[0], &of.ZImages[n-1]}[k%2].Phase = phase
				if got := impl.IsValidTableau(of); got != (follow && phase%2 == 0) {
					t.Error("validity of", of, "is", got)
				} else if got {
					count++
				}
			}
		}
		if count != []int{0, 2 * 6, 2 * 720}[n] {
			t.Error("number of tableaux on", n, "qubits:", count)
		}
	}
}

func TestComposeNumbersOfQubits(t *testing.T) {
	for n := 1; n <= maxQubits; n++ {
		for m := 1; m <= maxQubits; m++ {
			for _, first := range validTableaux(t, n) {
				for _, second := range validTableaux(t, m) {
					got, ok := impl.ComposeTableaux(first, second)
					if n == m && (!ok || got.Qubits != n) {
						t.Error("no composition on", n, "qubits:", got, ok)
					}
					if n != m {
						checkNoTableau(t, "ComposeTableaux of other numbers of qubits", got, ok)
					}
				}
			}
		}
	}
}

func TestImageNumbersOfQubits(t *testing.T) {
	for n := 1; n <= maxQubits; n++ {
		for q := range maxQubits + 2 {
			for _, p := range []impl.Pauli{{X: 1 << q}, {Z: 1 << q}, {Phase: 2, X: 1 << q, Z: 1 << q}} {
				got, ok := impl.ImageOf(generators(n), p)
				if q < n {
					checkPauli(t, "ImageOf", got, ok, p)
				} else {
					checkNoPauli(t, "ImageOf with too few qubits", got, ok)
				}
			}
		}
	}
}

func TestTableauOfCircuitsWithT(t *testing.T) {
	for n := 1; n <= maxQubits; n++ {
		for _, kind := range []int{impl.GtT, impl.GtTdg} {
			for q := range n {
				for count := 1; count <= 8; count++ {
					got, ok := impl.TableauOf(repeatedGate(n, gate(kind, q, 0), count))
					checkNoTableau(t, "TableauOf T", got, ok)
				}
				c := withoutT(sampleCircuit(n, 12, n))
				for place := range len(c.Gates) + 1 {
					got, ok := impl.TableauOf(circuit(n, slices.Insert(slices.Clone(c.Gates), place, gate(kind, q, 0))...))
					checkNoTableau(t, "TableauOf a circuit with T", got, ok)
				}
			}
		}
		got, ok := impl.TableauOf(circuit(n, gate(impl.GtT, 0, 0), gate(impl.GtTdg, 0, 0)))
		checkNoTableau(t, "TableauOf T and its inverse", got, ok)
		long := repeatedGate(n, gate(impl.GtX, 0, 0), maxGates)
		long.Gates[maxGates-1] = gate(impl.GtTdg, n-1, 0)
		got, ok = impl.TableauOf(long)
		checkNoTableau(t, "TableauOf a long circuit with T", got, ok)
	}
}

func TestTableauOfInvalidCircuits(t *testing.T) {
	check := func(c impl.Circuit) {
		t.Helper()
		got, ok := impl.TableauOf(c)
		checkNoTableau(t, "TableauOf a circuit that is not valid", got, ok)
	}
	check(impl.Circuit{})
	for _, n := range invalidQubitCounts() {
		check(circuit(n))
		check(circuit(n, gate(impl.GtH, 0, 0)))
	}
	for n := 1; n <= maxQubits; n++ {
		for k, g := range invalidGates(n) {
			check(circuit(n, g))
			c := withoutT(sampleCircuit(n, 12, k))
			check(circuit(n, slices.Insert(c.Gates, []int{0, 2, len(c.Gates)}[k%3], g)...))
		}
		for _, g := range validGates(n) {
			check(repeatedGate(n, g, maxGates+1))
		}
	}
}

// TestPauliOfAnyInts calls every function with all operators and numbers of qubits made of the least and greatest integers.
func TestPauliOfAnyInts(t *testing.T) {
	wild := []int{math.MinInt, math.MinInt + 1, -4, -1, 0, 1, 2, 3, 5, 6, 31, 32, 64, math.MaxInt - 1, math.MaxInt}
	for _, n := range wild {
		for _, phase := range wild {
			for _, x := range wild {
				for _, z := range wild {
					p := impl.Pauli{Phase: phase, X: x, Z: z}
					checkPauliAgreement(t, n, p)
					of := impl.Tableau{Qubits: n, XImages: []impl.Pauli{p}, ZImages: []impl.Pauli{{X: z, Z: x}}}
					checkTableauAgreement(t, of, p)
					of.XImages, of.ZImages = of.ZImages, of.XImages
					checkTableauAgreement(t, of, p)
				}
			}
		}
		checkTableauAgreement(t, impl.Tableau{Qubits: n}, impl.Pauli{})
	}
}

func checkPauliAgreement(t *testing.T, n int, p impl.Pauli) {
	t.Helper()
	valid := impl.IsValidPauli(n, p)
	_, multiplied := impl.MulPauli(n, p, p)
	_, behind := impl.MulPauli(n, impl.Pauli{}, p)
	commute, compared := impl.Commute(n, p, p)
	text, formatted := impl.FormatPauli(n, p)
	m, exists := impl.PauliMatrix(n, p)
	if multiplied != valid || behind != valid || commute != valid || compared != valid || formatted != valid || exists != valid || (text != "") != valid || (m.Rows != 0) != valid {
		t.Error("the functions disagree on validity:", n, p)
	}
}

func checkTableauAgreement(t *testing.T, of impl.Tableau, p impl.Pauli) {
	t.Helper()
	valid := impl.IsValidTableau(of)
	if valid && (of.Qubits != 1 || of.XImages[0].Phase%2 != 0 || of.ZImages[0].Phase%2 != 0) {
		t.Error("valid:", of)
	}
	_, imaged := impl.ImageOf(of, p)
	composed, together := impl.ComposeTableaux(of, of)
	inverse, inverted := impl.InvertTableau(of)
	if imaged != (valid && impl.IsValidPauli(of.Qubits, p)) || together != valid || inverted != valid || (composed.Qubits != 0) != valid || (inverse.Qubits != 0) != valid {
		t.Error("the functions disagree on validity:", of, p)
	}
}
