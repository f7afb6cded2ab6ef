package tests

import (
	"slices"
	"strings"
	"testing"

	"loop.example/g00864/impl"
)

// TestNormalFormOfTheFormsMatrix has every form with few syllables, each with one phase, and forms with all numbers of them.
func TestNormalFormOfTheFormsMatrix(t *testing.T) {
	list := manyForms()
	for k, f := range fewForms(3) {
		f.Phase = (k + k/24) % 8
		list = append(list, f)
	}
	for _, f := range list {
		got, ok := impl.NormalFormOf(mustMatrix(t)(impl.MatrixOfForm(f)))
		checkForm(t, "NormalFormOf MatrixOfForm", got, ok, f)
	}
}

// formWords are words of gates on one qubit: all short ones, and long ones that a form with MaxSyllables has room for.
func formWords() []string {
	list := append(allWords("HXYZSsTtW", 3), oneQubitWords()...)
	for count := 20; count <= maxSyllables; count++ {
		list = append(list, normalWord(count, 1), normalWord(count, 6))
	}
	for seed := range 60 {
		d, word := dice(900+seed), ""
		for range 5 + d.below(50) {
			word += d.pick("H", "X", "Y", "Z", "S", "s", "T", "t", "W", "H", "T")
		}
		list = append(list, word)
	}
	return list
}

func tCount(word string) int { return strings.Count(strings.ToUpper(word), "T") }

func TestNormalFormOfWords(t *testing.T) {
	for _, word := range formWords() {
		m := letterOperator(t, word)
		f := mustForm(t)(impl.NormalFormOf(m))
		checkMatrixLaw(t, "the operator of the form of "+word, mustMatrix(t)(impl.MatrixOfForm(f)), m)
		count, ok := impl.LeastTCount(m)
		checkNumber(t, "LeastTCount of "+word, count, ok, len(f.Syllables))
		if count > tCount(word) {
			t.Error("more T gates than before:", word, f)
		}
	}
}

// TestNormalFormIsUnique compares any two short words: their forms are equal if their operators are, and differ otherwise.
func TestNormalFormIsUnique(t *testing.T) {
	forms := map[[4]impl.Dyadic]impl.NormalForm{}
	operators := map[impl.NormalForm][4]impl.Dyadic{}
	for _, word := range append(allWords("HSTW", 4), allWords("HTs", 5)...) {
		m := letterOperator(t, word)
		f := mustForm(t)(impl.NormalFormOf(m))
		cells := [4]impl.Dyadic(m.Cells)
		if known, ok := forms[cells]; ok && known != f {
			t.Error("two forms of one operator:", word, f, known)
		}
		if known, ok := operators[f]; ok && known != cells {
			t.Error("two operators with one form:", word, f, known)
		}
		forms[cells], operators[f] = f, cells
	}
	if len(forms) < 140 || len(forms) != len(operators) {
		t.Error("the numbers of operators and forms are", len(forms), len(operators))
	}
}

// TestNormalFormOfPhases has every multiple of an operator.
func TestNormalFormOfPhases(t *testing.T) {
	for _, word := range []string{"", "Y", "T", "HTH", normalWord(7, 3), normalWord(31, 3), normalWord(40, 3)} {
		m := letterOperator(t, word)
		f := mustForm(t)(impl.NormalFormOf(m))
		for k := range 16 {
			got, ok := impl.NormalFormOf(turned(m, k%8))
			checkForm(t, "NormalFormOf a multiple of "+word, got, ok, form(f.Syllables, f.Clifford, (f.Phase+k)%8))
			count, ok := impl.LeastTCount(turned(m, k%8))
			checkNumber(t, "LeastTCount of a multiple of "+word, count, ok, len(f.Syllables))
		}
	}
}

// TestNormalFormBesideCliffords multiplies operators by Clifford operators, which need no T.
func TestNormalFormBesideCliffords(t *testing.T) {
	for _, f := range []impl.NormalForm{sampleForm(0, 1), sampleForm(1, 1), sampleForm(2, 2), sampleForm(9, 3), sampleForm(33, 4), sampleForm(40, 5)} {
		m := mustMatrix(t)(impl.MatrixOfForm(f))
		for _, word := range cliffordWords() {
			c := letterOperator(t, word)
			behind := mustForm(t)(impl.NormalFormOf(mustMatrix(t)(impl.MulMatrix(m, c))))
			if behind.Syllables != f.Syllables {
				t.Error("a Clifford operator behind changes the syllables:", f, behind, word)
			}
			before := mustForm(t)(impl.NormalFormOf(mustMatrix(t)(impl.MulMatrix(c, m))))
			if len(before.Syllables) != len(f.Syllables) {
				t.Error("a Clifford operator in front changes the number of syllables:", f, before, word)
			}
		}
		adjoint := mustForm(t)(impl.NormalFormOf(mustMatrix(t)(impl.Adjoint(m))))
		if len(adjoint.Syllables) != len(f.Syllables) {
			t.Error("the adjoint has another number of syllables:", f, adjoint)
		}
	}
}

func TestCircuitOfFormHasTheOperator(t *testing.T) {
	for _, f := range append(manyForms(), fewForms(2)...) {
		c := mustCircuit(t)(impl.CircuitOfForm(f))
		operator, ok := impl.OperatorOf(c)
		checkMatrix(t, "OperatorOf CircuitOfForm", operator, ok, mustMatrix(t)(impl.MatrixOfForm(f)))
		count, ok := impl.CountT(c)
		checkNumber(t, "CountT of CircuitOfForm", count, ok, len(f.Syllables))
		if gatesOf(c, impl.GtH, impl.GtS, impl.GtT, impl.GtW) != len(c.Gates) || c.Qubits != 1 {
			t.Error("other gates or qubits:", f, c)
		}
		least, ok := impl.LeastTCount(operator)
		checkNumber(t, "LeastTCount of CircuitOfForm", least, ok, len(f.Syllables))
	}
}

// TestLeastTCountIsBlochExp has Bloch matrices up to the exponent 29, which are all valid.
func TestLeastTCountIsBlochExp(t *testing.T) {
	for count := range 30 {
		for seed := range 5 {
			word := normalWord(count, seed)
			want, valid := impl.BlochExp(letterBloch(t, word))
			got, ok := impl.LeastTCount(letterOperator(t, word))
			checkNumber(t, "LeastTCount of "+word, got, ok && valid, want)
			checkNumber(t, "LeastTCount of "+word, got, ok, count)
		}
	}
}

func checkReduced(t *testing.T, c impl.Circuit) {
	t.Helper()
	reduced, ok := impl.ReduceOneQubit(c)
	operator := mustMatrix(t)(impl.OperatorOf(c))
	f := mustForm(t)(impl.NormalFormOf(operator))
	checkCircuit(t, "ReduceOneQubit", reduced, ok, mustCircuit(t)(impl.CircuitOfForm(f)))
	checkMatrixLaw(t, "the operator of a reduced circuit", mustMatrix(t)(impl.OperatorOf(reduced)), operator)
	before, after := mustCount(t)(impl.CountT(c)), mustCount(t)(impl.CountT(reduced))
	least, ok := impl.LeastTCount(operator)
	checkNumber(t, "LeastTCount", least, ok, after)
	if after > before {
		t.Error("more T gates than before:", c, reduced)
	}
	again, ok := impl.ReduceOneQubit(reduced)
	checkCircuit(t, "ReduceOneQubit twice", again, ok, reduced)
}

func TestReduceOneQubitOfWords(t *testing.T) {
	for k, word := range formWords() {
		if k%3 == 0 || len(word) > 3 {
			checkReduced(t, letterCircuit(word))
		}
	}
	for seed := range 40 {
		checkReduced(t, sampleCircuit(1, 60, seed))
	}
}

// TestReduceOneQubitOfMaxGates has circuits of MaxGates gates with few T that are needed.
func TestReduceOneQubitOfMaxGates(t *testing.T) {
	for _, g := range validGates(1) {
		c := repeatedGate(1, g, maxGates)
		checkReduced(t, c)
		got, ok := impl.ReduceOneQubit(c)
		checkCircuit(t, "ReduceOneQubit of 400 equal gates", got, ok, circuit(1))
		checkReduced(t, repeatedGate(1, g, maxGates-1))
	}
	for seed := range 4 {
		half := sampleCircuit(1, 190, seed)
		half.Gates = slices.DeleteFunc(half.Gates, func(g impl.Gate) bool { return g.Kind == impl.GtW })
		both := mustCircuit(t)(impl.Concat(half, mustCircuit(t)(impl.Inverse(half))))
		got, ok := impl.ReduceOneQubit(both)
		checkCircuit(t, "ReduceOneQubit of a circuit and its inverse", got, ok, circuit(1))
	}
}
