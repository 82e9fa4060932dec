package order

import (
	"cmp"

	"fourfold/algebra"
	"fourfold/api"
	"fourfold/exact"
	"fourfold/integer"
)

// lineOf returns the multiples of an element.
func lineOf(q api.Quat) exact.Lattice {
	return exact.Span(integer.Of(q.Den), exact.RowOf(numeratorsOf(q)))
}

// integers returns the lattice of the rational integers.
func integers() exact.Lattice {
	return exact.Span(integer.Of(1), exact.Rational(1))
}

// Generated returns the least order that contains all elements of a list.
func Generated(a api.Algebra, l []api.Quat) (api.Lattice, api.Errno) {
	const most = 8
	if e := algebra.Check(a); e != api.OK {
		return api.Lattice{}, e
	}
	if len(l) > most {
		return api.Lattice{}, api.ErrRange
	}
	for _, q := range l {
		if e := algebra.CheckQuat(q); e != api.OK {
			return api.Lattice{}, e
		}
	}
	// If the products are in one lattice, traces and norms are integers. Then x x and x y + y x are combinations of x, y and 1, and so all products are combinations of those in which each element stands once at most, behind those before it in the list: these span an order. Otherwise they do not.
	products := integers()
	for _, q := range l {
		products = products.Plus(products.Times(a, lineOf(q)))
		if !products.IsRing(a) {
			return api.Lattice{}, api.ErrNone
		}
	}
	if exact.IsZero(products.Determinant()) {
		return api.Lattice{}, api.ErrShape
	}
	return latticeOf(a, products)
}

// Conjugate returns the order of all q^-1 x q for x in l.
func Conjugate(a api.Algebra, l api.Lattice, q api.Quat) (api.Lattice, api.Errno) {
	r, e := accept(a, l)
	if e = cmp.Or(e, algebra.CheckQuat(q)); e != api.OK {
		return api.Lattice{}, e
	}
	n := exact.RowOf(numeratorsOf(q))
	norm := n.Norm(a)
	if exact.IsZero(norm) {
		return api.Lattice{}, api.ErrZero
	}
	norm.Neg = false
	inverse := exact.Span(norm, n.Conjugate()) // or its opposite
	return latticeOf(a, inverse.Times(a, r.exact).Times(a, exact.Span(integer.Of(1), n)))
}
