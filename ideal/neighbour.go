package ideal

import (
	"slices"

	"fourfold/api"
	"fourfold/exact"
	"fourfold/integer"
	"fourfold/order"
)

// singular returns the row of an element of l that is no multiple of p, and whose norm is a multiple of p times that of l, for a prime p that does not divide the discriminant of the right order.
// Modulo p the norm is a form with (p + 1)^2 zeros but for multiples, at most 2 p + 1 of them with the first coordinate 0.
func singular(a api.Algebra, l exact.Lattice, p int) exact.Row {
	norm, square := l.Norm(a), integer.Mul(l.Den, l.Den)
	for n := range p * p * p {
		r := exact.Coordinates{1, n / (p * p), n / p % p, n % p}.Of(l.Rows)
		if value := exact.Quotient(r.Norm(a), square).Over(norm); exact.Residue(value.Num, p) == 0 {
			return r
		}
	}
	return exact.Row{}
}

// neighbours returns the p + 1 lattices in l with its right order, which is o, and p times its norm, for a prime p that does not divide the discriminant of o.
// Modulo p, l and its orders on both sides are like the matrices with two rows and two columns, and the element that singular finds has rank 1. So its multiples from the left are a plane, and from the right each line of this plane generates one of the lattices.
func neighbours(a api.Algebra, l, o exact.Lattice, p int) []exact.Lattice {
	left, multiples := l.LeftOrder(a), l.By(p)
	den := integer.Mul(left.Den, l.Den)
	start := singular(a, l, p)
	first := start.Scaled(left.Den)
	line := exact.Span(den, first).Plus(multiples)
	var second exact.Row
	for _, r := range left.Rows {
		if second = r.Times(a, start); !line.Holds(second, den) {
			break
		}
	}
	generated := func(r exact.Row) exact.Lattice {
		return exact.Span(den, r).Times(a, o).Plus(multiples)
	}
	list := []exact.Lattice{generated(second)}
	for t := range p {
		list = append(list, generated(first.Minus(integer.Of(t), second)))
	}
	return list
}

// ofNorm returns the lattices in l with its right order, which is o, and n times its norm, for n that is prime to the discriminant of o.
// Each of them is in one whose norm has one prime less.
func ofNorm(a api.Algebra, l, o exact.Lattice, n int) []exact.Lattice {
	list := []exact.Lattice{l}
	powers, _ := integer.Factor(n)
	for _, f := range powers {
		for range f.Exponent {
			var next []exact.Lattice
			for _, m := range list {
				for _, part := range neighbours(a, m, o, f.Prime) {
					if !slices.ContainsFunc(next, part.Equals) {
						next = append(next, part)
					}
				}
			}
			list = next
		}
	}
	return list
}

// OfNorm returns all lattices in l with its right order and n times its norm.
func OfNorm(a api.Algebra, l api.Lattice, n int) ([]api.Lattice, api.Errno) {
	x, e := accept(a, l)
	if e != api.OK {
		return nil, e
	}
	if n < 1 || n > api.MaxNorm {
		return nil, api.ErrRange
	}
	right := x.RightOrder(a)
	o, e := right.Normal()
	if e != api.OK {
		return nil, e
	}
	disc, e := order.Discriminant(a, o)
	if e != api.OK {
		return nil, e
	}
	if _, e := order.Level(a, o); e != api.OK {
		return nil, api.ErrOrder
	}
	if integer.Cmp(integer.Gcd(integer.Of(n), integer.Of(disc)), integer.Of(1)) != 0 {
		return nil, api.ErrPrime
	}
	var list []api.Lattice
	for _, part := range ofNorm(a, x, right, n) {
		normal, e := part.Normal()
		if e != api.OK {
			return nil, e
		}
		list = append(list, normal)
	}
	slices.SortFunc(list, exact.Compare)
	return list, api.OK
}
