package order

import (
	"slices"

	"fourfold/algebra"
	"fourfold/api"
	"fourfold/exact"
	"fourfold/integer"
)

// level returns the index of an order in the maximal orders that contain it.
func (r ring) level() int {
	d, _ := algebra.Discriminant(r.algebra)
	return r.disc / d
}

// IsMaximalAt reports whether the order is maximal at p.
func IsMaximalAt(a api.Algebra, l api.Lattice, p int) (bool, api.Errno) {
	r, e := accept(a, l)
	if e != api.OK {
		return false, e
	}
	if !integer.IsPrime(p) {
		return false, api.ErrPrime
	}
	return r.level()%p != 0, api.OK
}

// IsMaximal reports whether the order is maximal.
func IsMaximal(a api.Algebra, l api.Lattice) (bool, api.Errno) {
	r, e := accept(a, l)
	if e != api.OK {
		return false, e
	}
	return r.level() == 1, api.OK
}

// radical returns the elements of the order l whose residues are in the radical of l modulo p: those whose products with all elements have traces that p divides, and whose norms p divides, which follows but for p = 2.
func radical(a api.Algebra, l exact.Lattice, p int) exact.Lattice {
	part := l.Dual(a).Plus(l.Over(p)).Dual(a)
	if p > 2 {
		return part
	}
	// On this part the norm is additive modulo 2.
	even := part.By(2)
	var odd []exact.Row
	for _, r := range part.Rows {
		if exact.Residue(norm(a, part, r), 2) == 1 {
			odd = append(odd, r)
			r = r.Minus(integer.Of(1), odd[0])
		}
		even = even.Plus(exact.Span(part.Den, r))
	}
	return even
}

// norm returns the norm of r / l.Den, which is an integer.
func norm(a api.Algebra, l exact.Lattice, r exact.Row) api.Int {
	return exact.Floor(r.Norm(a), integer.Mul(l.Den, l.Den))
}

// sides returns the two orders that contain the order l with the index p, for p that divides the discriminant once and not that of the algebra.
// Then l modulo the radical is a product of two fields of p elements. An element whose residue has two roots, less one of them, is in one of these fields: with the radical this is an ideal, and its left order is larger.
func sides(a api.Algebra, l exact.Lattice, p int) []exact.Lattice {
	radical := radical(a, l, p)
	var orders []exact.Lattice
	for _, r := range l.Rows {
		trace := exact.Floor(integer.Add(r[0], r[0]), l.Den)
		list := roots(exact.Residue(trace, p), exact.Residue(norm(a, l, r), p), p)
		if len(list) < 2 {
			continue
		}
		for _, x := range list {
			less := r.Minus(integer.Mul(integer.Of(x), l.Den), exact.Rational(1))
			orders = append(orders, radical.Plus(exact.Span(l.Den, less)).LeftOrder(a))
		}
		break
	}
	return orders
}

// maximalAt returns an order that contains the order l, with an index that is a power of p, and is maximal at p.
func maximalAt(a api.Algebra, l exact.Lattice, p int) exact.Lattice {
	d, _ := algebra.Discriminant(a)
	for {
		disc, _ := integer.Small(l.Discriminant(a))
		switch {
		case disc/d%p != 0:
			return l
		case disc%(p*p) == 0: // then the left order of the radical is larger
			l = radical(a, l, p).LeftOrder(a)
		default: // with the greater denominator the order may be too large
			l = slices.MinFunc(sides(a, l, p), func(x, y exact.Lattice) int { return integer.Cmp(x.Den, y.Den) })
		}
	}
}

// MaximalAt returns an order that contains l and is maximal at p.
func MaximalAt(a api.Algebra, l api.Lattice, p int) (api.Lattice, api.Errno) {
	r, e := accept(a, l)
	if e != api.OK {
		return api.Lattice{}, e
	}
	if !integer.IsPrime(p) {
		return api.Lattice{}, api.ErrPrime
	}
	return latticeOf(a, maximalAt(a, r.exact, p))
}

// Maximal returns a maximal order that contains l.
func Maximal(a api.Algebra, l api.Lattice) (api.Lattice, api.Errno) {
	r, e := accept(a, l)
	if e != api.OK {
		return api.Lattice{}, e
	}
	largest := r.exact
	primes, _ := integer.Factor(r.level())
	for _, f := range primes {
		largest = maximalAt(a, largest, f.Prime)
	}
	return latticeOf(a, largest)
}

// isSquarefree reports whether no square above 1 divides n, which is positive.
func isSquarefree(n int) bool {
	powers, _ := integer.Factor(n)
	for _, f := range powers {
		if f.Exponent > 1 {
			return false
		}
	}
	return true
}

// Level returns the level of an Eichler order.
func Level(a api.Algebra, l api.Lattice) (int, api.Errno) {
	r, e := accept(a, l)
	if e != api.OK {
		return 0, e
	}
	if !isSquarefree(r.disc) {
		return 0, api.ErrNone
	}
	return r.level(), api.OK
}

// divisor returns the coordinates of an element whose norm the prime q divides, and which is no multiple of q, for q that does not divide the discriminant.
// Modulo q the norm is a form with (q + 1)^2 zeros but for multiples, at most 2 q + 1 of them with the first coordinate 0.
func (r ring) divisor(q int) numbers {
	s := r.modulo(q)
	for c := range combinations(numbers{1}, numbers{1, q - 1, q - 1, q - 1}) {
		if s.norm(c) == 0 {
			return c
		}
	}
	return numbers{}
}

// eichler returns an order of the level n in a maximal one.
func (r ring) eichler(n int) exact.Lattice {
	var sum numbers
	primes, _ := integer.Factor(n)
	for _, f := range primes {
		for i, c := range r.divisor(f.Prime) {
			sum[i] += n / f.Prime * c
		}
	}
	// Modulo each prime that divides n the multiples of this element from the left are the matrices whose rows are multiples of one; with the numbers they are those that take this row to a multiple.
	element := exact.Span(integer.Of(r.lattice.Den), exact.RowOf(sum.of(r.basis())))
	return integers().Plus(r.exact.Times(r.algebra, element)).Plus(r.exact.By(n))
}

// Eichler returns an order of the level n in the maximal order l.
func Eichler(a api.Algebra, l api.Lattice, n int) (api.Lattice, api.Errno) {
	r, e := accept(a, l)
	if e != api.OK {
		return api.Lattice{}, e
	}
	if r.level() != 1 {
		return api.Lattice{}, api.ErrOrder
	}
	if n < 1 || n > api.MaxLevel {
		return api.Lattice{}, api.ErrRange
	}
	if !isSquarefree(n) || commonDivisor(n, r.disc) != 1 {
		return api.Lattice{}, api.ErrPrime
	}
	return latticeOf(a, r.eichler(n))
}
