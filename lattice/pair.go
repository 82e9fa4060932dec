package lattice

import (
	"cmp"

	"fourfold/api"
)

// checkPair returns the error of two lattices in one space.
func checkPair(a, b api.Lattice) api.Errno {
	if e := cmp.Or(Check(a), Check(b)); e != api.OK {
		return e
	}
	if a.Dim != b.Dim {
		return api.ErrShape
	}
	return api.OK
}

// together returns the rows of two lattices over a common denominator.
func together(a, b api.Lattice) (first, second [][]number, den number) {
	p, q := numberOf(a.Den), numberOf(b.Den)
	g := commonDivisor(p, q)
	first = scaled(numbers(a.Rows), q.over(g))
	second = scaled(numbers(b.Rows), p.over(g))
	return first, second, p.times(q.over(g))
}

// Sum returns the sum.
func Sum(a, b api.Lattice) (api.Lattice, api.Errno) {
	if e := checkPair(a, b); e != api.OK {
		return api.Lattice{}, e
	}
	first, second, den := together(a, b)
	return span(a.Dim, append(first, second...), den).lattice()
}

// Meet returns the intersection.
func Meet(a, b api.Lattice) (api.Lattice, api.Errno) {
	if e := checkPair(a, b); e != api.OK {
		return api.Lattice{}, e
	}
	first, second, den := together(a, b)
	// The rows (x + y, x) with x in a and y in b: where the first half is 0, x is -y, and so in both.
	pairs := append(beside(first, first), beside(second, scaled(second, number{}))...)
	h := echelonOf(pairs, 2*a.Dim)
	return lowest(a.Dim, h.rows(a.Dim), den).lattice()
}

// volume returns the volume of a basis as a numerator and a denominator, which are 0 and 1 if it is not full.
func (b basis) volume() (numerator, denominator number) {
	numerator, denominator = numberOf(1), numberOf(1)
	if len(b.rows) < b.dim {
		return number{}, denominator
	}
	for i, row := range b.rows {
		numerator = numerator.times(row[i])
		denominator = denominator.times(b.den)
	}
	return numerator, denominator
}

// Index returns the volume of b divided by that of a.
func Index(a, b api.Lattice) (api.Frac, api.Errno) {
	if e := checkPair(a, b); e != api.OK {
		return api.Frac{}, e
	}
	p, q := basisOf(a).volume()
	r, s := basisOf(b).volume()
	if p.isZero() || r.isZero() {
		return api.Frac{}, api.ErrNone
	}
	above, below := r.times(q), s.times(p)
	g := commonDivisor(above, below)
	num, fits := above.over(g).entry()
	den, fit := below.over(g).entry()
	if !fits || !fit {
		return api.Frac{}, api.ErrLarge
	}
	return api.Frac{Num: num, Den: den}, api.OK
}
