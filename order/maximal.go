package order

import (
	"slices"

	"fourfold/algebra"
	"fourfold/api"
	"fourfold/integer"
)

// level returns the index of an order in the maximal orders that contain it.
func (r ring) level() int {
	d, _ := algebra.Discriminant(r.algebra)
	return r.disc / d
}

// IsMaximalAt reports whether the order is maximal at p.
func IsMaximalAt(a api.Algebra, l api.Lattice, p int) (bool, api.Errno) {
	r, e := accept(a, l)
	if e != api.OK {
		return false, e
	}
	if !integer.IsPrime(p) {
		return false, api.ErrPrime
	}
	return r.level()%p != 0, api.OK
}

// IsMaximal reports whether the order is maximal.
func IsMaximal(a api.Algebra, l api.Lattice) (bool, api.Errno) {
	r, e := accept(a, l)
	if e != api.OK {
		return false, e
	}
	return r.level() == 1, api.OK
}

// leftOrder returns the order of all x with x l in l, for l of rank 4: those whose products with the elements of l and then of its dual have integers as traces.
func (l exact) leftOrder(a api.Algebra) exact {
	return l.times(a, l.dual(a)).dual(a)
}

// radical returns the elements of the order l whose residues are in the radical of l modulo p: those whose products with all elements have traces that p divides, and whose norms p divides, which follows but for p = 2.
func (l exact) radical(a api.Algebra, p int) exact {
	part := l.dual(a).plus(l.over(p)).dual(a)
	if p > 2 {
		return part
	}
	// On this part the norm is additive modulo 2.
	even := part.by(2)
	var odd []row
	for _, r := range part.rows {
		if residue(part.norm(a, r), 2) == 1 {
			odd = append(odd, r)
			r = r.minus(integer.Of(1), odd[0])
		}
		even = even.plus(span(part.den, r))
	}
	return even
}

// norm returns the norm of r / den, which is an integer.
func (l exact) norm(a api.Algebra, r row) api.Int {
	return floor(r.norm(a), integer.Mul(l.den, l.den))
}

// sides returns the two orders that contain the order l with the index p, for p that divides the discriminant once and not that of the algebra.
// Then l modulo the radical is a product of two fields of p elements. An element whose residue has two roots, less one of them, is in one of these fields: with the radical this is an ideal, and its left order is larger.
func (l exact) sides(a api.Algebra, p int) []exact {
	radical := l.radical(a, p)
	var orders []exact
	for _, r := range l.rows {
		trace := floor(integer.Add(r[0], r[0]), l.den)
		list := roots(residue(trace, p), residue(l.norm(a, r), p), p)
		if len(list) < 2 {
			continue
		}
		for _, x := range list {
			less := r.minus(integer.Mul(integer.Of(x), l.den), rational(1))
			orders = append(orders, radical.plus(span(l.den, less)).leftOrder(a))
		}
		break
	}
	return orders
}

// maximalAt returns an order that contains the order l, with an index that is a power of p, and is maximal at p.
func (l exact) maximalAt(a api.Algebra, p int) exact {
	d, _ := algebra.Discriminant(a)
	for {
		disc, _ := integer.Small(l.discriminant(a))
		switch {
		case disc/d%p != 0:
			return l
		case disc%(p*p) == 0: // then the left order of the radical is larger
			l = l.radical(a, p).leftOrder(a)
		default: // with the greater denominator the order may be too large
			l = slices.MinFunc(l.sides(a, p), func(x, y exact) int { return integer.Cmp(x.den, y.den) })
		}
	}
}

// MaximalAt returns an order that contains l and is maximal at p.
func MaximalAt(a api.Algebra, l api.Lattice, p int) (api.Lattice, api.Errno) {
	r, e := accept(a, l)
	if e != api.OK {
		return api.Lattice{}, e
	}
	if !integer.IsPrime(p) {
		return api.Lattice{}, api.ErrPrime
	}
	return latticeOf(a, r.exact.maximalAt(a, p))
}

// Maximal returns a maximal order that contains l.
func Maximal(a api.Algebra, l api.Lattice) (api.Lattice, api.Errno) {
	r, e := accept(a, l)
	if e != api.OK {
		return api.Lattice{}, e
	}
	largest := r.exact
	primes, _ := integer.Factor(r.level())
	for _, f := range primes {
		largest = largest.maximalAt(a, f.Prime)
	}
	return latticeOf(a, largest)
}

// isSquarefree reports whether no square above 1 divides n, which is positive.
func isSquarefree(n int) bool {
	powers, _ := integer.Factor(n)
	for _, f := range powers {
		if f.Exponent > 1 {
			return false
		}
	}
	return true
}

// Level returns the level of an Eichler order.
func Level(a api.Algebra, l api.Lattice) (int, api.Errno) {
	r, e := accept(a, l)
	if e != api.OK {
		return 0, e
	}
	if !isSquarefree(r.disc) {
		return 0, api.ErrNone
	}
	return r.level(), api.OK
}

// divisor returns the coordinates of an element whose norm the prime q divides, and which is no multiple of q, for q that does not divide the discriminant.
// Modulo q the norm is a form with (q + 1)^2 zeros but for multiples, at most 2 q + 1 of them with the first coordinate 0.
func (r ring) divisor(q int) numbers {
	s := r.modulo(q)
	for c := range combinations(numbers{1}, numbers{1, q - 1, q - 1, q - 1}) {
		if s.norm(c) == 0 {
			return c
		}
	}
	return numbers{}
}

// eichler returns an order of the level n in a maximal one.
func (r ring) eichler(n int) exact {
	var sum numbers
	primes, _ := integer.Factor(n)
	for _, f := range primes {
		for i, c := range r.divisor(f.Prime) {
			sum[i] += n / f.Prime * c
		}
	}
	// Modulo each prime that divides n the multiples of this element from the left are the matrices whose rows are multiples of one; with the numbers they are those that take this row to a multiple.
	element := span(integer.Of(r.lattice.Den), rowOf(sum.of(r.basis())))
	return integers().plus(r.exact.times(r.algebra, element)).plus(r.exact.by(n))
}

// Eichler returns an order of the level n in the maximal order l.
func Eichler(a api.Algebra, l api.Lattice, n int) (api.Lattice, api.Errno) {
	r, e := accept(a, l)
	if e != api.OK {
		return api.Lattice{}, e
	}
	if r.level() != 1 {
		return api.Lattice{}, api.ErrOrder
	}
	if n < 1 || n > api.MaxLevel {
		return api.Lattice{}, api.ErrRange
	}
	if !isSquarefree(n) || commonDivisor(n, r.disc) != 1 {
		return api.Lattice{}, api.ErrPrime
	}
	return latticeOf(a, r.eichler(n))
}
