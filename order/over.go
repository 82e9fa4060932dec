package order

import (
	"slices"

	"fourfold/api"
	"fourfold/exact"
	"fourfold/integer"
)

// Overorders returns all orders that contain l with the index p.
func Overorders(a api.Algebra, l api.Lattice, p int) ([]api.Lattice, api.Errno) {
	r, e := accept(a, l)
	if e != api.OK {
		return nil, e
	}
	if !isListed(p) {
		return nil, api.ErrPrime
	}
	var list []api.Lattice
	s := r.modulo(p * p)
	for c := range combinations(each(0), each(p-1)) {
		// The element c / p is added: its trace and its norm have to be integers.
		if !isDirection(c) || s.trace(c)%p != 0 || s.norm(c) != 0 {
			continue
		}
		larger := r.exact.Plus(exact.Span(integer.Of(p*r.lattice.Den), exact.RowOf(c.of(r.basis()))))
		if !larger.IsRing(a) {
			continue
		}
		found, e := latticeOf(a, larger)
		if e != api.OK {
			return nil, e
		}
		list = append(list, found)
	}
	slices.SortFunc(list, exact.Compare)
	return list, api.OK
}
