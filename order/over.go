package order

import (
	"cmp"
	"slices"

	"fourfold/api"
	"fourfold/integer"
)

// compareLattices returns -1, 0 or 1, as the lattice l, in normal form, stands before m, is m, or stands behind m.
func compareLattices(l, m api.Lattice) int {
	return cmp.Or(cmp.Compare(l.Den, m.Den), slices.CompareFunc(l.Rows, m.Rows, slices.Compare))
}

// Overorders returns all orders that contain l with the index p.
func Overorders(a api.Algebra, l api.Lattice, p int) ([]api.Lattice, api.Errno) {
	r, e := accept(a, l)
	if e != api.OK {
		return nil, e
	}
	if !isListed(p) {
		return nil, api.ErrPrime
	}
	var list []api.Lattice
	s := r.modulo(p * p)
	for c := range combinations(each(0), each(p-1)) {
		// The element c / p is added: its trace and its norm have to be integers.
		if !isDirection(c) || s.trace(c)%p != 0 || s.norm(c) != 0 {
			continue
		}
		larger := r.exact.plus(span(integer.Of(p*r.lattice.Den), rowOf(c.of(r.basis()))))
		if !larger.isRing(a) {
			continue
		}
		found, e := latticeOf(a, larger)
		if e != api.OK {
			return nil, e
		}
		list = append(list, found)
	}
	slices.SortFunc(list, compareLattices)
	return list, api.OK
}
