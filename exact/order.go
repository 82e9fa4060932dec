package exact

import (
	"fourfold/api"
	"fourfold/integer"
)

// The functions of this file are those in which elements of a lattice of rank 4 are multiplied, or have traces and norms.

// absolute returns the size of n.
func absolute(n int) int {
	return max(n, -n)
}

// Dual returns the lattice of all elements whose products with those of l have integers as traces.
func (l Lattice) Dual(a api.Algebra) Lattice {
	determinant := l.Determinant()
	var inverse [4]Row // that of the rows, times the determinant
	for j := range inverse {
		for i := j; i >= 0; i-- {
			var rest api.Int
			if i == j {
				rest = determinant
			}
			for k := i + 1; k <= j; k++ {
				rest = integer.Sub(rest, integer.Mul(l.Rows[i][k], inverse[k][j]))
			}
			inverse[i][j] = Floor(rest, l.Rows[i][i])
		}
	}
	// The traces of the squares of 1, i, j, k are 2, 2 A, 2 B and -2 A B. These are the quotients of 2 A B by them.
	quotients := [4]int{a.A * a.B, a.B, a.A, -1}
	var rows [4]Row
	for i := range rows {
		for j := range rows {
			rows[j][i] = integer.Mul(integer.Mul(l.Den, integer.Of(quotients[i])), inverse[i][j])
		}
	}
	return Span(integer.Mul(determinant, integer.Of(absolute(2*a.A*a.B))), rows[:]...)
}

// Into returns the lattice of all x with x m in l: those whose products with the elements of m and then of the dual of l have integers as traces.
func (l Lattice) Into(a api.Algebra, m Lattice) Lattice {
	return m.Times(a, l.Dual(a)).Dual(a)
}

// LeftOrder returns the order of all x with x l in l.
func (l Lattice) LeftOrder(a api.Algebra) Lattice {
	return l.Into(a, l)
}

// RightOrder returns the order of all x with l x in l.
func (l Lattice) RightOrder(a api.Algebra) Lattice {
	return l.Dual(a).Times(a, l).Dual(a)
}

// IsRing reports whether l contains 1, and the product of any two of its elements.
func (l Lattice) IsRing(a api.Algebra) bool {
	if !l.Holds(Rational(1), integer.Of(1)) {
		return false
	}
	den := integer.Mul(l.Den, l.Den)
	for _, r := range l.Rows {
		for _, s := range l.Rows {
			if !l.Holds(r.Times(a, s), den) {
				return false
			}
		}
	}
	return true
}

// Discriminant returns the discriminant of an order.
func (l Lattice) Discriminant(a api.Algebra) api.Int {
	d := l.Volume().Times(Whole(absolute(4 * a.A * a.B))) // that of 1, i, j, k is 4 A B
	return d.Num
}

// Norm returns the positive fraction that generates the group of all combinations of norms of elements.
func (l Lattice) Norm(a api.Algebra) Fraction {
	var g api.Int
	for i, r := range l.Rows {
		g = integer.Gcd(g, r.Norm(a))
		for _, s := range l.Rows[:i] {
			g = integer.Gcd(g, r.Between(a, s))
		}
	}
	return Quotient(g, integer.Mul(l.Den, l.Den))
}

// Inverse returns the conjugate of l, divided by the norm of l.
func (l Lattice) Inverse(a api.Algebra) Lattice {
	return l.Conjugate().Scaled(Whole(1).Over(l.Norm(a)))
}
