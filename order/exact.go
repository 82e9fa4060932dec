package order

import (
	"fourfold/api"
	"fourfold/integer"
)

// exact is the lattice of the combinations of rows / den. Its numbers are of any size: what is computed on the way to a result may be far greater than the result.
// The rows are a Hermite form in which the row with its pivot in column j is number j, and 0 if there is none; no number above 1 divides all numbers and den, which is positive.
type exact struct {
	rows [4]row
	den  api.Int
}

// span returns the lattice of the combinations of rows / den, for positive den.
func span(den api.Int, rows ...row) exact {
	l := exact{den: den}
	for _, r := range rows {
		l.insert(r)
	}
	return l.lowest()
}

// exactOf returns a valid lattice in dimension 4.
func exactOf(l api.Lattice) exact {
	var rows []row
	for _, r := range l.Rows {
		rows = append(rows, rowOf(numbers(r)))
	}
	return span(integer.Of(l.Den), rows...)
}

// insert adds a row.
func (l *exact) insert(r row) {
	for j := range l.rows {
		for !isZero(r[j]) { // as in Euclid's algorithm
			q, _, _ := integer.DivMod(l.rows[j][j], r[j])
			l.rows[j], r = r, l.rows[j].minus(q, r)
		}
		if l.rows[j][j].Neg {
			l.rows[j] = l.rows[j].scaled(integer.Of(-1))
		}
	}
	l.reduce()
}

// reduce brings the numbers above each pivot into the range from 0 to the pivot less 1.
func (l *exact) reduce() {
	for i := len(l.rows) - 2; i >= 0; i-- {
		for j := i + 1; j < len(l.rows); j++ {
			if pivot := l.rows[j][j]; !isZero(pivot) {
				l.rows[i] = l.rows[i].minus(floor(l.rows[i][j], pivot), l.rows[j])
			}
		}
	}
}

// lowest returns l without the greatest common divisor of its numbers and den.
func (l exact) lowest() exact {
	g := l.den
	for _, r := range l.rows {
		for _, n := range r {
			g = integer.Gcd(g, n)
		}
	}
	if len(g.Words) == 1 && g.Words[0] == 1 {
		return l
	}
	l.den = floor(l.den, g)
	for i, r := range l.rows {
		for j, n := range r {
			l.rows[i][j] = floor(n, g)
		}
	}
	return l
}

// plus returns the sum of l and m.
func (l exact) plus(m exact) exact {
	var rows []row
	for i := range l.rows {
		rows = append(rows, l.rows[i].scaled(m.den), m.rows[i].scaled(l.den))
	}
	return span(integer.Mul(l.den, m.den), rows...)
}

// times returns the lattice that the products of elements of l and m generate.
func (l exact) times(a api.Algebra, m exact) exact {
	var rows []row
	for _, r := range l.rows {
		for _, s := range m.rows {
			rows = append(rows, r.times(a, s))
		}
	}
	return span(integer.Mul(l.den, m.den), rows...)
}

// by returns l times n, which is positive.
func (l exact) by(n int) exact {
	for i, r := range l.rows {
		l.rows[i] = r.scaled(integer.Of(n))
	}
	return l.lowest()
}

// over returns l divided by n, which is positive.
func (l exact) over(n int) exact {
	l.den = integer.Mul(l.den, integer.Of(n))
	return l.lowest()
}

// determinant returns the product of the pivots.
func (l exact) determinant() api.Int {
	product := integer.Of(1)
	for j, r := range l.rows {
		product = integer.Mul(product, r[j])
	}
	return product
}

// dual returns the lattice of all elements whose products with those of l, which has the rank 4, have integers as traces.
func (l exact) dual(a api.Algebra) exact {
	determinant := l.determinant()
	var inverse [4]row // that of the rows, times the determinant
	for j := range inverse {
		for i := j; i >= 0; i-- {
			var rest api.Int
			if i == j {
				rest = determinant
			}
			for k := i + 1; k <= j; k++ {
				rest = integer.Sub(rest, integer.Mul(l.rows[i][k], inverse[k][j]))
			}
			inverse[i][j] = floor(rest, l.rows[i][i])
		}
	}
	// The traces of the squares of 1, i, j, k are 2, 2 A, 2 B and -2 A B. These are the quotients of 2 A B by them.
	quotients := numbers{a.A * a.B, a.B, a.A, -1}
	var rows [4]row
	for i := range rows {
		for j := range rows {
			rows[j][i] = integer.Mul(integer.Mul(l.den, integer.Of(quotients[i])), inverse[i][j])
		}
	}
	return span(integer.Mul(determinant, integer.Of(absolute(2*a.A*a.B))), rows[:]...)
}

// absolute returns the size of n.
func absolute(n int) int {
	return max(n, -n)
}

// holds reports whether r / den is in l.
func (l exact) holds(r row, den api.Int) bool {
	for j, n := range r {
		q, rest, _ := integer.DivMod(integer.Mul(n, l.den), den)
		if !isZero(rest) {
			return false
		}
		r[j] = q
	}
	for j, pivot := range l.rows {
		if isZero(r[j]) {
			continue
		}
		if isZero(pivot[j]) {
			return false
		}
		q, rest, _ := integer.DivMod(r[j], pivot[j])
		if !isZero(rest) {
			return false
		}
		r = r.minus(q, pivot)
	}
	return true
}

// isRing reports whether l contains 1, and the product of any two of its elements.
func (l exact) isRing(a api.Algebra) bool {
	if !l.holds(rational(1), integer.Of(1)) {
		return false
	}
	den := integer.Mul(l.den, l.den)
	for _, r := range l.rows {
		for _, s := range l.rows {
			if !l.holds(r.times(a, s), den) {
				return false
			}
		}
	}
	return true
}

// discriminant returns the discriminant of an order.
func (l exact) discriminant(a api.Algebra) api.Int {
	d := integer.Mul(l.determinant(), integer.Of(absolute(4*a.A*a.B))) // that of 1, i, j, k is 4 A B
	for range l.rows {
		d = floor(d, l.den)
	}
	return d
}
