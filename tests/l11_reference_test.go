package tests

import (
	"math/big"
	"slices"

	"loop.example/g00864/impl"
)

// plainTable is a matrix whose numerators have no limits.
type plainTable struct {
	rows  int
	cols  int
	cells []fraction
}

func tableOf(m impl.Matrix) plainTable {
	table := plainTable{rows: m.Rows, cols: m.Cols}
	for _, x := range m.Cells {
		table.cells = append(table.cells, fractionOf(x))
	}
	return table
}

// matrix reports whether all cells are valid.
func (p plainTable) matrix() (impl.Matrix, bool) {
	m := matrix(p.rows, p.cols)
	for _, f := range p.cells {
		x, ok := f.dyadic()
		if !ok {
			return impl.Matrix{}, false
		}
		m.Cells = append(m.Cells, x)
	}
	return m, true
}

func (p plainTable) column(k int) plainTable {
	column := plainTable{rows: p.rows, cols: 1}
	for i := range p.rows {
		column.cells = append(column.cells, p.cells[i*p.cols+k])
	}
	return column
}

// unlimitedSum is in lowest form.
func unlimitedSum(f fraction, g fraction, sign int64) fraction {
	exp := max(f.exp, g.exp)
	left, _ := f.raised(exp)
	right, _ := g.raised(exp)
	return fraction{left.plus(right, sign), exp}.lower()
}

func turnedFraction(f fraction, power int) fraction {
	for range power {
		f.num = f.num.turn()
	}
	return f
}

// after changes the rows of an operator one by one, as the document describes it.
func (p plainTable) after(o impl.TwoLevel) plainTable {
	cells := slices.Clone(p.cells)
	for k := range p.cols {
		first, second := o.I*p.cols+k, o.J*p.cols+k
		switch o.Kind {
		case impl.TlW:
			cells[first] = turnedFraction(p.cells[first], o.M)
		case impl.TlX:
			cells[first], cells[second] = p.cells[second], p.cells[first]
		case impl.TlH:
			x, y := p.cells[first], turnedFraction(p.cells[second], o.M)
			sum, difference := unlimitedSum(x, y, 1), unlimitedSum(x, y, -1)
			cells[first], cells[second] = fraction{sum.num, sum.exp + 1}.lower(), fraction{difference.num, difference.exp + 1}.lower()
		}
	}
	return plainTable{p.rows, p.cols, cells}
}

func (p plainTable) leastExp() int {
	least := 0
	for _, f := range p.cells {
		least = max(least, f.exp)
	}
	return least
}

func isOddInt(n *big.Int) bool { return n.Bit(0) == 1 }

func oddCount(x exact) int {
	count := 0
	for _, a := range x {
		if isOddInt(a) {
			count++
		}
	}
	return count
}

// plainType tries the division by the square root of 2.
func plainType(x exact) int {
	_, divisible := x.timesRoot().over(big.NewInt(2))
	if divisible {
		return 0
	}
	if isOddInt(x.combine(1, 2, 3, 4)) {
		return 1
	}
	return 2
}

// plainPower tries all powers; there is none if the types are 0 or differ.
func plainPower(x exact, y exact) (int, bool) {
	kind := plainType(x)
	if kind == 0 || plainType(y) != kind {
		return 0, false
	}
	for power := range 8 {
		odd := oddCount(x.plus(y, 1))
		if odd == 0 || odd == 4 && kind == 1 {
			return power, true
		}
		y = y.turn()
	}
	return 0, false
}

// plainPair finds the first two numbers of type 1, and if there are no two, those of type 2.
func plainPair(numbers []exact) (int, int) {
	var rows [3][]int
	for i, x := range numbers {
		kind := plainType(x)
		rows[kind] = append(rows[kind], i)
	}
	if len(rows[1]) >= 2 {
		return rows[1][0], rows[1][1]
	}
	return rows[2][0], rows[2][1]
}

// plainStep returns the operator that is applied to a vector whose squares sum to 1, and false if it is the basis vector.
func plainStep(v plainTable, from int) (impl.TwoLevel, bool) {
	if k := v.leastExp(); k > 0 {
		var numbers []exact
		for _, f := range v.cells {
			number, _ := f.raised(k)
			numbers = append(numbers, number)
		}
		i, j := plainPair(numbers)
		power, _ := plainPower(numbers[i], numbers[j])
		return mixOf(i, j, power), true
	}
	row := slices.IndexFunc(v.cells, func(f fraction) bool { return !f.num.isZero() })
	if row != from {
		return exchangeOf(from, row), true
	}
	x, _ := v.cells[row].dyadic()
	for power := 1; power < 8; power++ {
		if x == powerOfOmega(power) {
			return turnOf(row, 8-power), true
		}
	}
	return impl.TwoLevel{}, false
}

// plainOperators follows the document's words for ReduceColumn, without limits.
func plainOperators(v plainTable, from int) []impl.TwoLevel {
	var list []impl.TwoLevel
	for o, more := plainStep(v, from); more; o, more = plainStep(v, from) {
		list, v = append(list, o), v.after(o)
	}
	return list
}

// plainInverse is the list that the document names for InverseTwoLevel.
func plainInverse(o impl.TwoLevel) []impl.TwoLevel {
	switch {
	case o.Kind == impl.TlW:
		return []impl.TwoLevel{turnOf(o.I, 8-o.M)}
	case o.Kind == impl.TlH && o.M > 0:
		return []impl.TwoLevel{turnOf(o.J, 8-o.M), mixOf(o.I, o.J, 0)}
	}
	return []impl.TwoLevel{o}
}

// plainDecomposition follows the document's words for DecomposeMatrix, without limits. It also returns the columns at the moment when they are reduced.
func plainDecomposition(p plainTable) ([]impl.TwoLevel, []plainTable) {
	var list []impl.TwoLevel
	var columns []plainTable
	for c := range p.cols {
		columns = append(columns, p.column(c))
		for _, o := range plainOperators(p.column(c), c) {
			list, p = append(list, plainInverse(o)...), p.after(o)
		}
	}
	return list, columns
}

// sumsToOne reports whether the absolute squares sum to 1, without limits.
func sumsToOne(v plainTable) bool {
	sum := fractionOf(whole(0))
	for _, f := range v.cells {
		sum = unlimitedSum(sum, fraction{f.num.times(f.num.conjugate()), 2 * f.exp}.lower(), 1)
	}
	return sum.exp == 0 && sum.num.plus(exactOf(ring(1, 0, 0, 0)), -1).isZero()
}

// isWithinLimits reports whether the absolute squares and their sums, from left to right, are valid.
func isWithinLimits(v plainTable) bool {
	sum := whole(0)
	for _, f := range v.cells {
		square, ok := referenceProduct(f, f.conjugate())
		if !ok {
			return false
		}
		if sum, ok = referenceSum(fractionOf(sum), fractionOf(square), 1); !ok {
			return false
		}
	}
	return true
}
