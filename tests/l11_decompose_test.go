package tests

import (
	"slices"
	"testing"

	"loop.example/g00864/impl"
)

// checkDecomposed compares the operators with those of the reference, and multiplies them in three ways.
func checkDecomposed(t *testing.T, m impl.Matrix) []impl.TwoLevel {
	t.Helper()
	want, _ := plainDecomposition(tableOf(m))
	got, ok := impl.DecomposeMatrix(m)
	checkOperators(t, "DecomposeMatrix", got, ok, want...)
	product, ok := impl.ComposeTwoLevel(m.Rows, got)
	checkMatrix(t, "ComposeTwoLevel of DecomposeMatrix", product, ok, m)
	is, ok := impl.CheckDecomposition(m, got)
	checkAnswer(t, "CheckDecomposition", is, ok, true, true)
	backwards := slices.Clone(got)
	slices.Reverse(backwards)
	checkMatrixLaw(t, "the operators applied to the identity", multiplied(t, identity(m.Rows), backwards), m)
	return got
}

func checkNotDecomposed(t *testing.T, m impl.Matrix) {
	t.Helper()
	got, ok := impl.DecomposeMatrix(m)
	checkNoOperators(t, "DecomposeMatrix", got, ok)
}

func TestDecomposeMatrixInFull(t *testing.T) {
	get := mustMatrix(t)
	h, s, phaseGate := kindMatrix(impl.GtH), kindMatrix(impl.GtS), kindMatrix(impl.GtT)
	cases := []struct {
		m    impl.Matrix
		want []impl.TwoLevel
	}{
		{identity(2), nil}, {identity(4), nil}, {identity(8), nil},
		{h, []impl.TwoLevel{mixOf(0, 1, 0)}}, {s, []impl.TwoLevel{turnOf(1, 2)}}, {phaseGate, []impl.TwoLevel{turnOf(1, 1)}},
		{kindMatrix(impl.GtSdg), []impl.TwoLevel{turnOf(1, 6)}}, {kindMatrix(impl.GtZ), []impl.TwoLevel{turnOf(1, 4)}},
		{kindMatrix(impl.GtX), []impl.TwoLevel{exchangeOf(0, 1)}}, {kindMatrix(impl.GtY), []impl.TwoLevel{exchangeOf(0, 1), turnOf(0, 2), turnOf(1, 6)}},
		{phases(1, 1), []impl.TwoLevel{turnOf(0, 1), turnOf(1, 1)}}, {phases(3, 0, 0, 5), []impl.TwoLevel{turnOf(0, 3), turnOf(3, 5)}},
		{kindMatrix(impl.GtCX), []impl.TwoLevel{exchangeOf(2, 3)}}, {kindMatrix(impl.GtCZ), []impl.TwoLevel{turnOf(3, 4)}}, {kindMatrix(impl.GtSwap), []impl.TwoLevel{exchangeOf(1, 2)}},
		{permutation(1, 2, 3, 0), []impl.TwoLevel{exchangeOf(0, 1), exchangeOf(1, 2), exchangeOf(2, 3)}}, {permutation(3, 0, 1, 2), []impl.TwoLevel{exchangeOf(0, 3), exchangeOf(1, 3), exchangeOf(2, 3)}},
		{get(impl.MulMatrix(h, phaseGate)), []impl.TwoLevel{mixOf(0, 1, 0), turnOf(1, 1)}},
		{get(impl.MulMatrix(phaseGate, h)), []impl.TwoLevel{turnOf(1, 5), mixOf(0, 1, 0), exchangeOf(0, 1)}},
	}
	for _, c := range cases {
		got, ok := impl.DecomposeMatrix(c.m)
		checkOperators(t, "DecomposeMatrix", got, ok, c.want...)
		checkDecomposed(t, c.m)
	}
}

func TestDecomposeMatrixOfGates(t *testing.T) {
	for n := 1; n <= 3; n++ {
		for _, g := range validGates(n) {
			checkDecomposed(t, mustMatrix(t)(impl.GateMatrix(n, g)))
		}
	}
	for _, m := range unitaries(t) {
		if m.Rows == 1 {
			checkNotDecomposed(t, m)
		} else {
			checkDecomposed(t, m)
		}
	}
}

func TestDecomposeMatrixOfCircuits(t *testing.T) {
	longest := 0
	for n := 1; n <= 3; n++ {
		for seed := range 20 {
			for _, c := range []impl.Circuit{sampleCircuit(n, 4*seed, seed), entangled(n, seed, 2*seed)} {
				longest = max(longest, len(checkDecomposed(t, mustMatrix(t)(impl.OperatorOf(c)))))
			}
		}
	}
	for _, word := range append(oneQubitWords(), normalWord(50, 1), normalWord(50, 2)) {
		checkDecomposed(t, letterOperator(t, word))
	}
	if longest < 200 {
		t.Error("all lists are short:", longest)
	}
}

// TestDecomposeMatrixOfOperators has every operator, and products of operators.
func TestDecomposeMatrixOfOperators(t *testing.T) {
	for _, n := range twoLevelDims() {
		for _, o := range allOperators(n, 0) {
			list := checkDecomposed(t, mustMatrix(t)(impl.TwoLevelMatrix(n, o)))
			if o.Kind != impl.TlH && !slices.Equal(list, []impl.TwoLevel{o}) {
				t.Error("the operators of", o, "are", list)
			}
		}
		for first := range n {
			for count := range 9 {
				checkDecomposed(t, changedBy(t, identity(n), first, 3*count, 7*n+first+10*count))
			}
		}
	}
}

// TestDecomposeMatrixOfDiagonals has all diagonal matrices of dimension 2, and all permutations of four rows with phases.
func TestDecomposeMatrixOfDiagonals(t *testing.T) {
	for k := range 64 {
		want := []impl.TwoLevel{turnOf(0, k%8), turnOf(1, k/8)}
		want = slices.DeleteFunc(want, func(o impl.TwoLevel) bool { return o.M == 0 })
		got, ok := impl.DecomposeMatrix(phases(k%8, k/8))
		checkOperators(t, "DecomposeMatrix of a diagonal", got, ok, want...)
	}
	for k, images := range renamings(4, 4) {
		m := mustMatrix(t)(impl.MulMatrix(phases(k%8, k/8, 3, 0), permutation(images...)))
		for _, o := range checkDecomposed(t, m) {
			if o.Kind == impl.TlH {
				t.Error("an operator for a permutation is", o)
			}
		}
	}
}

// withPhases multiplies the columns by powers of w, each of which adds or removes at most one operator.
func withPhases(t *testing.T, m impl.Matrix, exps ...int) impl.Matrix {
	t.Helper()
	return mustMatrix(t)(impl.MulMatrix(m, phases(exps...)))
}

// TestDecomposeMatrixOfMaxOperators has matrices that need MaxOperators operators, one more, and some more and less.
func TestDecomposeMatrixOfMaxOperators(t *testing.T) {
	counts := map[int]int{}
	for _, c := range []impl.Circuit{entangled(3, 30, 75), entangled(3, 40, 65), entangled(3, 15, 70)} {
		m := mustMatrix(t)(impl.OperatorOf(c))
		for k := range 12 {
			exps := make([]int, 8)
			exps[k%8], exps[(k+3)%8], exps[7] = k%8, (k+5)%8, (3*k)%8
			turned := withPhases(t, m, exps...)
			want, _ := plainDecomposition(tableOf(turned))
			counts[len(want)]++
			if len(want) > maxOperators {
				checkNotDecomposed(t, turned)
				continue
			}
			got, ok := impl.DecomposeMatrix(turned)
			checkOperators(t, "DecomposeMatrix", got, ok, want...)
			is, ok := impl.CheckDecomposition(turned, got)
			checkAnswer(t, "CheckDecomposition", is, ok, true, true)
		}
	}
	if counts[maxOperators] == 0 || counts[maxOperators+1] == 0 || counts[maxOperators-1] == 0 {
		t.Error("the limit is not met:", counts)
	}
}

func TestDecomposeMatrixBeyondMaxOperators(t *testing.T) {
	for seed := range 6 {
		m := mustMatrix(t)(impl.OperatorOf(entangled(3, seed, 95)))
		want, _ := plainDecomposition(tableOf(m))
		is, ok := impl.IsUnitary(m)
		checkAnswer(t, "IsUnitary", is, ok, true, true)
		if len(want) <= maxOperators {
			t.Error("few operators:", len(want))
		}
		checkNotDecomposed(t, m)
	}
}

// regular has H and T on every qubit in turn, and a controlled X behind each round.
func regular(seed int, count int) impl.Circuit {
	d, c := dice(seed), circuit(3)
	for len(c.Gates) < count {
		for q := range 3 {
			c.Gates = append(c.Gates, gate(impl.GtH, q, 0), gate(impl.GtT, q, 0))
		}
		a := d.below(3)
		c.Gates = append(c.Gates, gate(impl.GtCX, a, (a+1+d.below(2))%3))
	}
	c.Gates = c.Gates[:count]
	return c
}

// TestDecomposeMatrixBeyondTheLimits has unitary matrices for which IsUnitary fails, and matrices for which a column leaves the limits of ReduceColumn when its turn comes.
func TestDecomposeMatrixBeyondTheLimits(t *testing.T) {
	for _, word := range []string{normalWord(64, 1), normalWord(80, 2), normalWord(100, 3)} {
		m := letterOperator(t, word)
		if _, ok := impl.IsUnitary(m); ok {
			t.Error("IsUnitary succeeds:", m)
		}
		checkNotDecomposed(t, m)
	}
	fine, failed := 0, 0
	for seed := range 120 {
		m := mustMatrix(t)(impl.OperatorOf(regular(seed, 36+seed%10)))
		got, ok := impl.DecomposeMatrix(m)
		if ok {
			fine++
			continue
		}
		checkNoOperators(t, "DecomposeMatrix", got, ok)
		want, columns := plainDecomposition(tableOf(m))
		if len(want) <= maxOperators {
			failed++
			if !slices.ContainsFunc(columns, func(v plainTable) bool { return !isWithinLimits(v) }) {
				t.Error("no column leaves the limits:", seed)
			}
		}
	}
	if fine < 50 || failed < 2 {
		t.Error("the cases are not mixed:", fine, failed)
	}
}

func TestDecomposeMatrixOfOtherMatrices(t *testing.T) {
	list := append(invalidMatrices(), notUnitary()...)
	for _, n := range []int{1, 16, 32} {
		list = append(list, identity(n))
	}
	for _, n := range twoLevelDims() {
		list = append(list, filled(n, n, whole(0)), filled(n, n, whole(1)), filled(n, 1, rootHalf), filled(1, n, rootHalf), filled(n, 16, whole(0)), basis(n, 0))
		for k := range n {
			m := identity(n)
			m.Cells[k*n+k] = []impl.Dyadic{whole(0), whole(2), rootHalf, whole(-3)}[k%4]
			list = append(list, m)
			m = identity(n)
			m.Cells[k*n+(k+1)%n] = []impl.Dyadic{whole(1), rootHalf, omega}[k%3]
			list = append(list, m)
			m = identity(n)
			copy(m.Cells[k*n:(k+1)*n], m.Cells[(k+1)%n*n:])
			list = append(list, m)
		}
		m := changedBy(t, identity(n), 0, 9, n)
		for k := range m.Cells {
			changed := matrix(n, n, slices.Clone(m.Cells)...)
			changed.Cells[k], _ = impl.MulDyadic(m.Cells[k], rootHalf)
			if changed.Cells[k] == m.Cells[k] {
				changed.Cells[k] = whole(1)
			}
			list = append(list, changed)
		}
	}
	for _, x := range invalidDyadics() {
		list = append(list, matrix(2, 2, x, whole(0), whole(0), whole(1)), matrix(2, 2, whole(1), whole(0), whole(0), x), matrix(2, 2, whole(0), x, whole(1), whole(0)))
	}
	for _, m := range list {
		checkNotDecomposed(t, m)
	}
	checkNotDecomposed(t, kindMatrix(impl.GtW))
	checkNotDecomposed(t, mustMatrix(t)(impl.OperatorOf(circuit(4))))
	checkNotDecomposed(t, mustMatrix(t)(impl.OperatorOf(sampleCircuit(5, 4, 1))))
}
