// Package exact computes with lattices of quaternion algebras whose numbers are of any size: what is computed on the way to a result may be far greater than the result. Packages order and ideal decide by it what is an order, an ideal, or too large. The elements of a norm, and their numbers, are found with a reduced basis.
package exact

import (
	"cmp"
	"slices"

	"fourfold/api"
	"fourfold/integer"
	"fourfold/lattice"
)

// Lattice is the lattice of the combinations of Rows / Den.
// The rows are a Hermite form in which the row with its pivot in column j is number j, and 0 if there is none; no number above 1 divides all numbers and Den, which is positive.
type Lattice struct {
	Rows [4]Row
	Den  api.Int
}

// Span returns the lattice of the combinations of rows / den, for positive den.
func Span(den api.Int, rows ...Row) Lattice {
	l := Lattice{Den: den}
	for _, r := range rows {
		l.insert(r)
	}
	return l.lowest()
}

// Of returns a valid lattice in dimension 4.
func Of(l api.Lattice) Lattice {
	var rows []Row
	for _, r := range l.Rows {
		rows = append(rows, RowOf([4]int(r)))
	}
	return Span(integer.Of(l.Den), rows...)
}

// Accept returns a lattice of rank 4 in an algebra, or the error of a lattice that is none, or whose normal form has a number that is greater than MaxCoord.
func Accept(l api.Lattice) (Lattice, api.Errno) {
	if e := lattice.Check(l); e != api.OK {
		return Lattice{}, e
	}
	if l.Dim != 4 {
		return Lattice{}, api.ErrShape
	}
	accepted := Of(l)
	if IsZero(accepted.Determinant()) {
		return Lattice{}, api.ErrShape
	}
	if _, e := accepted.Normal(); e != api.OK {
		return Lattice{}, e
	}
	return accepted, api.OK
}

// Normal returns the normal form of a lattice of rank 4, or ErrLarge if a number of it is greater than MaxCoord.
func (l Lattice) Normal() (api.Lattice, api.Errno) {
	den, ok := small(l.Den)
	normal := api.Lattice{Dim: len(l.Rows), Den: den}
	for _, r := range l.Rows {
		list := make([]int, len(r))
		for j, x := range r {
			n, fits := small(x)
			list[j] = n
			ok = ok && fits
		}
		normal.Rows = append(normal.Rows, list)
	}
	if !ok {
		return api.Lattice{}, api.ErrLarge
	}
	return normal, api.OK
}

// Compare returns -1, 0 or 1, as the lattice l, in normal form, stands before m, is m, or stands behind m.
func Compare(l, m api.Lattice) int {
	return cmp.Or(cmp.Compare(l.Den, m.Den), slices.CompareFunc(l.Rows, m.Rows, slices.Compare))
}

// small returns x as an int, and whether it is one that is at most MaxCoord, for x that is not negative.
func small(x api.Int) (int, bool) {
	n, ok := integer.Small(x)
	return n, ok && n <= api.MaxCoord
}

// insert adds a row.
func (l *Lattice) insert(r Row) {
	for j := range l.Rows {
		for !IsZero(r[j]) { // as in Euclid's algorithm
			q, _, _ := integer.DivMod(l.Rows[j][j], r[j])
			l.Rows[j], r = r, l.Rows[j].Minus(q, r)
		}
		if l.Rows[j][j].Neg {
			l.Rows[j] = l.Rows[j].Scaled(integer.Of(-1))
		}
	}
	l.reduce()
}

// reduce brings the numbers above each pivot into the range from 0 to the pivot less 1.
func (l *Lattice) reduce() {
	for i := len(l.Rows) - 2; i >= 0; i-- {
		for j := i + 1; j < len(l.Rows); j++ {
			if pivot := l.Rows[j][j]; !IsZero(pivot) {
				l.Rows[i] = l.Rows[i].Minus(Floor(l.Rows[i][j], pivot), l.Rows[j])
			}
		}
	}
}

// lowest returns l without the greatest common divisor of its numbers and Den.
func (l Lattice) lowest() Lattice {
	g := l.Den
	for _, r := range l.Rows {
		for _, n := range r {
			g = integer.Gcd(g, n)
		}
	}
	if len(g.Words) == 1 && g.Words[0] == 1 {
		return l
	}
	l.Den = Floor(l.Den, g)
	for i, r := range l.Rows {
		for j, n := range r {
			l.Rows[i][j] = Floor(n, g)
		}
	}
	return l
}

// Equals reports whether l and m are the same lattice.
func (l Lattice) Equals(m Lattice) bool {
	if integer.Cmp(l.Den, m.Den) != 0 {
		return false
	}
	for i, r := range l.Rows {
		for j, n := range r {
			if integer.Cmp(n, m.Rows[i][j]) != 0 {
				return false
			}
		}
	}
	return true
}

// Plus returns the sum of l and m.
func (l Lattice) Plus(m Lattice) Lattice {
	var rows []Row
	for i := range l.Rows {
		rows = append(rows, l.Rows[i].Scaled(m.Den), m.Rows[i].Scaled(l.Den))
	}
	return Span(integer.Mul(l.Den, m.Den), rows...)
}

// Times returns the lattice that the products of elements of l and m generate.
func (l Lattice) Times(a api.Algebra, m Lattice) Lattice {
	var rows []Row
	for _, r := range l.Rows {
		for _, s := range m.Rows {
			rows = append(rows, r.Times(a, s))
		}
	}
	return Span(integer.Mul(l.Den, m.Den), rows...)
}

// Moved returns the lattice of all x y, y in l, for x = r / den, whose norm is not 0, and positive den.
func (l Lattice) Moved(a api.Algebra, r Row, den api.Int) Lattice {
	for i, s := range l.Rows {
		l.Rows[i] = r.Times(a, s)
	}
	return Span(integer.Mul(den, l.Den), l.Rows[:]...)
}

// Scaled returns l times f, which is positive.
func (l Lattice) Scaled(f Fraction) Lattice {
	for i, r := range l.Rows {
		l.Rows[i] = r.Scaled(f.Num)
	}
	l.Den = integer.Mul(l.Den, f.Den)
	return l.lowest()
}

// By returns l times n, which is positive.
func (l Lattice) By(n int) Lattice {
	return l.Scaled(Whole(n))
}

// Over returns l divided by n, which is positive.
func (l Lattice) Over(n int) Lattice {
	return l.Scaled(Quotient(integer.Of(1), integer.Of(n)))
}

// Conjugate returns the lattice of the conjugates.
func (l Lattice) Conjugate() Lattice {
	var rows []Row
	for _, r := range l.Rows {
		rows = append(rows, r.Conjugate())
	}
	return Span(l.Den, rows...)
}

// Holds reports whether r / den is in l.
func (l Lattice) Holds(r Row, den api.Int) bool {
	for j, n := range r {
		q, rest, _ := integer.DivMod(integer.Mul(n, l.Den), den)
		if !IsZero(rest) {
			return false
		}
		r[j] = q
	}
	for j, pivot := range l.Rows {
		if IsZero(r[j]) {
			continue
		}
		if IsZero(pivot[j]) {
			return false
		}
		q, rest, _ := integer.DivMod(r[j], pivot[j])
		if !IsZero(rest) {
			return false
		}
		r = r.Minus(q, pivot)
	}
	return true
}

// Determinant returns the product of the pivots.
func (l Lattice) Determinant() api.Int {
	product := integer.Of(1)
	for j, r := range l.Rows {
		product = integer.Mul(product, r[j])
	}
	return product
}

// Volume returns the volume of l, of which that of the integer coordinates is 1.
func (l Lattice) Volume() Fraction {
	square := integer.Mul(l.Den, l.Den)
	return Quotient(l.Determinant(), integer.Mul(square, square))
}
