package tests

import (
	"slices"
	"strings"
	"testing"

	"loop.example/g00864/impl"
)

// timesPauli returns m p, by way of the adjoints: a product with few cells in front takes less time.
func timesPauli(t *testing.T, m impl.Matrix, p impl.Matrix) impl.Matrix {
	get := mustMatrix(t)
	return get(impl.Adjoint(get(impl.MulMatrix(get(impl.Adjoint(p)), get(impl.Adjoint(m))))))
}

// TestPauliProductsFollowTheirMatrices has all pairs on one and two qubits, and many on more.
func TestPauliProductsFollowTheirMatrices(t *testing.T) {
	get := mustMatrix(t)
	for n := 1; n <= maxQubits; n++ {
		unwrap, texts := mustPauli(t, n), somePauliTexts(n)
		var matrices []impl.Matrix
		for _, text := range texts {
			matrices = append(matrices, get(impl.PauliMatrix(n, pauli(text))))
		}
		for i, a := range texts {
			for j, b := range texts {
				product := unwrap(impl.MulPauli(n, pauli(a), pauli(b)))
				want := get(impl.MulMatrix(matrices[i], matrices[j]))
				checkMatrixLaw(t, "the product of "+a+" and "+b, get(impl.PauliMatrix(n, product)), want)
				same := sameMatrix(want, get(impl.MulMatrix(matrices[j], matrices[i])))
				commute, ok := impl.Commute(n, pauli(a), pauli(b))
				checkAnswer(t, "Commute of "+a+" and "+b, commute, ok, same, true)
				checkOrder(t, product, unwrap(impl.MulPauli(n, pauli(b), pauli(a))), same)
			}
			if t.Failed() {
				return // The matrices of all pairs would be too much to print.
			}
		}
	}
}

// checkOrder compares the products in both orders.
func checkOrder(t *testing.T, product impl.Pauli, backwards impl.Pauli, same bool) {
	t.Helper()
	if !same {
		backwards.Phase = (backwards.Phase + 2) % 4
	}
	if product != backwards {
		t.Error("the products in both orders:", product, backwards, same)
	}
}

func TestPauliProductLaws(t *testing.T) {
	for n := 1; n <= maxQubits; n++ {
		unwrap := mustPauli(t, n)
		for _, text := range pauliTexts(n) {
			p := pauli(text)
			checkPauli(t, "I in front of "+text, unwrap(impl.MulPauli(n, impl.Pauli{}, p)), true, p)
			checkPauli(t, "I behind "+text, unwrap(impl.MulPauli(n, p, impl.Pauli{})), true, p)
			checkPauli(t, "the square of "+text, unwrap(impl.MulPauli(n, p, p)), true, impl.Pauli{Phase: 2 * p.Phase % 4})
			commute, ok := impl.Commute(n, p, p)
			checkAnswer(t, "Commute of one operator twice", commute, ok, true, true)
		}
		list := somePauliTexts(n)
		list = list[max(0, len(list)-43):]
		for _, a := range list {
			for _, b := range list {
				both := unwrap(impl.MulPauli(n, pauli(a), pauli(b)))
				for _, c := range list[:6] {
					left := unwrap(impl.MulPauli(n, both, pauli(c)))
					right := unwrap(impl.MulPauli(n, pauli(a), unwrap(impl.MulPauli(n, pauli(b), pauli(c)))))
					checkPauli(t, "three factors "+a+" "+b+" "+c, left, true, right)
				}
			}
		}
	}
}

// checkConjugate checks that image is u p u^-1, as a product with u behind it.
func checkConjugate(t *testing.T, n int, u impl.Matrix, p impl.Pauli, image impl.Pauli) {
	t.Helper()
	get := mustMatrix(t)
	left := get(impl.MulMatrix(get(impl.PauliMatrix(n, image)), u))
	if !sameMatrix(left, timesPauli(t, u, get(impl.PauliMatrix(n, p)))) {
		t.Errorf("the conjugate of %v is not %v on %d qubits", p, image, n)
	}
}

// TestTableauOfConjugates has each gate alone, both orders of qubits, no gates and many.
func TestTableauOfConjugates(t *testing.T) {
	get, unwrap := mustMatrix(t), mustTableau(t)
	for n := 1; n <= maxQubits; n++ {
		for _, c := range cliffordCircuits(n) {
			checkConjugates(t, get(impl.OperatorOf(c)), unwrap(impl.TableauOf(c)))
		}
	}
}

// TestTableauOfEveryGate finds the matrices of the gates by the bits of the basis states.
func TestTableauOfEveryGate(t *testing.T) {
	unwrap := mustTableau(t)
	for n := 1; n <= maxQubits; n++ {
		for _, g := range withoutT(circuit(n, validGates(n)...)).Gates {
			checkConjugates(t, placedMatrix(n, g), unwrap(impl.TableauOf(circuit(n, g))))
		}
	}
}

// checkConjugates has the image of each generator.
func checkConjugates(t *testing.T, u impl.Matrix, of impl.Tableau) {
	t.Helper()
	for q := range of.Qubits {
		checkConjugate(t, of.Qubits, u, impl.Pauli{X: 1 << q}, of.XImages[q])
		checkConjugate(t, of.Qubits, u, impl.Pauli{Z: 1 << q}, of.ZImages[q])
	}
}

// TestImagesAreConjugates has generators, products and all phases.
func TestImagesAreConjugates(t *testing.T) {
	get, unwrap := mustMatrix(t), mustTableau(t)
	for n := 1; n <= maxQubits; n++ {
		image, circuits := mustPauli(t, n), cliffordCircuits(n)
		for k, c := range circuits {
			if n > 1 && k%(n*n) != 1 && k < len(circuits)-2 {
				continue
			}
			of, operator := unwrap(impl.TableauOf(c)), get(impl.OperatorOf(c))
			for _, text := range somePauliTexts(n) {
				checkConjugate(t, n, operator, pauli(text), image(impl.ImageOf(of, pauli(text))))
			}
		}
	}
}

// TestImageLaws holds the images against the lists of the tableau and against each other.
func TestImageLaws(t *testing.T) {
	unwrap := mustTableau(t)
	for n := 1; n <= maxQubits; n++ {
		get, texts := mustPauli(t, n), somePauliTexts(n)
		texts = texts[max(0, len(texts)-20):]
		for _, c := range cliffordCircuits(n) {
			of := unwrap(impl.TableauOf(c))
			for phase := range 4 {
				checkPauli(t, "the image of a phase", get(impl.ImageOf(of, impl.Pauli{Phase: phase})), true, impl.Pauli{Phase: phase})
				for q := range n {
					x, z := of.XImages[q], of.ZImages[q]
					x.Phase, z.Phase = (x.Phase+phase)%4, (z.Phase+phase)%4
					checkPauli(t, "the image of X with a phase", get(impl.ImageOf(of, impl.Pauli{Phase: phase, X: 1 << q})), true, x)
					checkPauli(t, "the image of Z with a phase", get(impl.ImageOf(of, impl.Pauli{Phase: phase, Z: 1 << q})), true, z)
				}
			}
			for k, a := range texts {
				b := texts[(7*k+3)%len(texts)]
				both := get(impl.ImageOf(of, get(impl.MulPauli(n, pauli(a), pauli(b)))))
				first, second := get(impl.ImageOf(of, pauli(a))), get(impl.ImageOf(of, pauli(b)))
				checkPauli(t, "the image of a product", both, true, get(impl.MulPauli(n, first, second)))
				before, _ := impl.Commute(n, pauli(a), pauli(b))
				after, ok := impl.Commute(n, first, second)
				checkAnswer(t, "Commute of two images", after, ok, before, true)
			}
		}
	}
}

// TestComposeIsConcatenation composes in this order, and follows an operator through both tableaux.
func TestComposeIsConcatenation(t *testing.T) {
	kept, unwrap := mustCircuit(t), mustTableau(t)
	for n := 1; n <= maxQubits; n++ {
		get, circuits, texts := mustPauli(t, n), cliffordCircuits(n), somePauliTexts(n)
		for i, a := range circuits {
			for j, b := range circuits {
				if len(a.Gates)+len(b.Gates) > maxGates || n > 2 && (i+j)%n != 0 {
					continue
				}
				first, second := unwrap(impl.TableauOf(a)), unwrap(impl.TableauOf(b))
				both := unwrap(impl.ComposeTableaux(first, second))
				checkTableau(t, "ComposeTableaux", both, true, unwrap(impl.TableauOf(kept(impl.Concat(a, b)))))
				p := pauli(texts[(i*31+j)%len(texts)])
				want := get(impl.ImageOf(second, get(impl.ImageOf(first, p))))
				checkPauli(t, "ImageOf a composition", get(impl.ImageOf(both, p)), true, want)
			}
		}
	}
}

func TestComposeLaws(t *testing.T) {
	unwrap := mustTableau(t)
	for n := 1; n <= maxQubits; n++ {
		var list []impl.Tableau
		for count := range 8 {
			list = append(list, unwrap(impl.TableauOf(withoutT(sampleCircuit(n, 9*count, 3*n+count)))))
		}
		for _, a := range list {
			checkTableau(t, "the identity in front", unwrap(impl.ComposeTableaux(generators(n), a)), true, a)
			checkTableau(t, "the identity behind", unwrap(impl.ComposeTableaux(a, generators(n))), true, a)
			for _, b := range list {
				both := unwrap(impl.ComposeTableaux(a, b))
				back := unwrap(impl.ComposeTableaux(unwrap(impl.InvertTableau(b)), unwrap(impl.InvertTableau(a))))
				checkTableau(t, "the inverse of a composition", unwrap(impl.InvertTableau(both)), true, back)
				for _, c := range list {
					left, right := unwrap(impl.ComposeTableaux(both, c)), unwrap(impl.ComposeTableaux(a, unwrap(impl.ComposeTableaux(b, c))))
					checkTableau(t, "three tableaux", left, true, right)
				}
			}
		}
	}
}

// checkInverse composes a tableau with its inverse in both orders.
func checkInverse(t *testing.T, of impl.Tableau) impl.Tableau {
	t.Helper()
	unwrap := mustTableau(t)
	inverse := unwrap(impl.InvertTableau(of))
	checkTableau(t, "a tableau and its inverse", unwrap(impl.ComposeTableaux(of, inverse)), true, generators(of.Qubits))
	checkTableau(t, "an inverse and its tableau", unwrap(impl.ComposeTableaux(inverse, of)), true, generators(of.Qubits))
	checkTableau(t, "the inverse of the inverse", unwrap(impl.InvertTableau(inverse)), true, of)
	return inverse
}

func TestInvertIsTheInverseCircuit(t *testing.T) {
	kept, unwrap := mustCircuit(t), mustTableau(t)
	for n := 1; n <= maxQubits; n++ {
		for _, c := range cliffordCircuits(n) {
			inverse := checkInverse(t, unwrap(impl.TableauOf(c)))
			// The inverse of GtW has seven gates, too many for the longest circuits.
			if len(c.Gates) > 60 {
				c.Gates = slices.DeleteFunc(c.Gates, func(g impl.Gate) bool { return g.Kind == impl.GtW })
			}
			checkTableau(t, "InvertTableau", inverse, true, unwrap(impl.TableauOf(kept(impl.Inverse(c)))))
		}
	}
}

// referenceAnticommute counts the qubits at which two letters other than I differ.
func referenceAnticommute(a string, b string) bool {
	count := 0
	for q := range a {
		if a[q] != b[q] && a[q] != 'I' && b[q] != 'I' {
			count++
		}
	}
	return count%2 == 1
}

// signed gives signs to the letters of the images, by the bits of a number.
func signed(letters []string, signs int) impl.Tableau {
	var texts []string
	for k, word := range letters {
		texts = append(texts, []string{"+", "-"}[signs>>k&1]+word)
	}
	n := len(letters) / 2
	return tableau(strings.Join(texts[:n], " "), strings.Join(texts[n:], " "))
}

// imageLetters lists all letters that 2 n images on n qubits may have: the images of X, then those of Z.
func imageLetters(n int) [][]string {
	var list [][]string
	for _, word := range letterTexts(2 * n * n) {
		var images []string
		for start := 0; start < len(word); start += n {
			images = append(images, word[start:start+n])
		}
		list = append(list, images)
	}
	return list
}

// followRules compares any two images with the generators.
func followRules(images []string) bool {
	for i, a := range images {
		for j, b := range images[:i] {
			if referenceAnticommute(a, b) != (i-j == len(images)/2) {
				return false
			}
		}
	}
	return true
}

// validLetters are those of all tableaux.
func validLetters(n int) [][]string {
	return slices.DeleteFunc(imageLetters(n), func(images []string) bool { return !followRules(images) })
}

// TestEveryTableauOfOneQubit composes any two and holds the inverses against the only tableau that undoes them.
func TestEveryTableauOfOneQubit(t *testing.T) {
	unwrap, get := mustTableau(t), mustPauli(t, 1)
	var list []impl.Tableau
	for _, letters := range validLetters(1) {
		for signs := range 4 {
			list = append(list, signed(letters, signs))
		}
	}
	if len(list) != 24 {
		t.Error("number of tableaux:", len(list))
	}
	for _, a := range list {
		inverse, undone := checkInverse(t, a), 0
		for _, b := range list {
			both := unwrap(impl.ComposeTableaux(a, b))
			if sameTableau(both, generators(1)) {
				undone++
				checkTableau(t, "InvertTableau", inverse, true, b)
			}
			for _, text := range pauliTexts(1) {
				want := get(impl.ImageOf(b, get(impl.ImageOf(a, pauli(text)))))
				checkPauli(t, "ImageOf a composition", get(impl.ImageOf(both, pauli(text))), true, want)
			}
		}
		if undone != 1 {
			t.Error("tableaux that undo another one:", a, undone)
		}
	}
}

// TestEveryTableauOfTwoQubits has all signs.
func TestEveryTableauOfTwoQubits(t *testing.T) {
	list := validLetters(2)
	if len(list) != 720 {
		t.Error("number of tableaux without signs:", len(list))
	}
	for _, letters := range list {
		for signs := range 16 {
			of := signed(letters, signs)
			inverse := checkInverse(t, of)
			for q := range 2 {
				image, ok := impl.ImageOf(of, inverse.XImages[q])
				checkPauli(t, "the image of the inverse image", image, ok, impl.Pauli{X: 1 << q})
				image, ok = impl.ImageOf(of, inverse.ZImages[q])
				checkPauli(t, "the image of the inverse image", image, ok, impl.Pauli{Z: 1 << q})
			}
		}
	}
}

// TestTableauIgnoresPhases puts GtW at each place of a circuit.
func TestTableauIgnoresPhases(t *testing.T) {
	unwrap := mustTableau(t)
	for n := 1; n <= maxQubits; n++ {
		c := withoutT(sampleCircuit(n, 14, n))
		want := unwrap(impl.TableauOf(c))
		for place := range len(c.Gates) + 1 {
			for count := range 9 {
				phases := slices.Repeat([]impl.Gate{gate(impl.GtW, 0, 0)}, count)
				got := unwrap(impl.TableauOf(circuit(n, slices.Insert(slices.Clone(c.Gates), place, phases...)...)))
				checkTableau(t, "TableauOf with GtW", got, true, want)
			}
		}
		checkTableau(t, "TableauOf GtW", unwrap(impl.TableauOf(repeatedGate(n, gate(impl.GtW, 0, 0), maxGates))), true, generators(n))
	}
}

// TestTableauOfMaxGates repeats each gate: four times any gate is the identity up to phase.
func TestTableauOfMaxGates(t *testing.T) {
	unwrap := mustTableau(t)
	for n := 1; n <= maxQubits; n++ {
		for _, g := range withoutT(circuit(n, validGates(n)...)).Gates {
			checkTableau(t, "MaxGates times a gate", unwrap(impl.TableauOf(repeatedGate(n, g, maxGates))), true, generators(n))
			inverse := unwrap(impl.InvertTableau(unwrap(impl.TableauOf(circuit(n, g)))))
			checkTableau(t, "one time less", unwrap(impl.TableauOf(repeatedGate(n, g, maxGates-1))), true, inverse)
		}
	}
}

// TestTableauEqualsExactlyForSameOperators holds tableaux against the operators up to a phase.
func TestTableauEqualsExactlyForSameOperators(t *testing.T) {
	unwrap := mustTableau(t)
	for n := 1; n <= 2; n++ {
		circuits := cliffordCircuits(n)
		for _, a := range circuits {
			for _, b := range circuits {
				same, ok := impl.SameOperator(a, b)
				if !ok || same != sameTableau(unwrap(impl.TableauOf(a)), unwrap(impl.TableauOf(b))) {
					t.Error("the operators and the tableaux disagree:", a, b, same, ok)
				}
			}
		}
	}
}
