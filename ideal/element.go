package ideal

import (
	"slices"

	"fourfold/algebra"
	"fourfold/api"
	"fourfold/exact"
	"fourfold/integer"
)

// quat returns the element r / den in lowest terms, or ErrLarge if a number of it is too large.
func quat(r exact.Row, den api.Int) (api.Quat, api.Errno) {
	divisor := den
	for _, n := range r {
		divisor = integer.Gcd(divisor, n)
	}
	fits := true
	part := func(n api.Int) int {
		small, ok := integer.Small(exact.Floor(n, divisor))
		fits = fits && ok
		return small
	}
	q := api.Quat{W: part(r[0]), X: part(r[1]), Y: part(r[2]), Z: part(r[3]), Den: part(den)}
	if !fits || algebra.CheckQuat(q) != api.OK {
		return api.Quat{}, api.ErrLarge
	}
	return q, api.OK
}

// quats returns the elements of a list of rows over den in their order, or ErrLarge if one is too large.
func quats(rows []exact.Row, den api.Int) ([]api.Quat, api.Errno) {
	slices.SortFunc(rows, func(r, s exact.Row) int { return slices.CompareFunc(r[:], s[:], integer.Cmp) })
	var list []api.Quat
	for _, r := range rows {
		q, e := quat(r, den)
		if e != api.OK {
			return nil, e
		}
		list = append(list, q)
	}
	return list, api.OK
}

// Elements returns all elements of a norm.
func Elements(a api.Algebra, l api.Lattice, norm api.Frac) ([]api.Quat, api.Errno) {
	const most = 1000
	if e := checkDefinite(a); e != api.OK {
		return nil, e
	}
	x, e := exact.Accept(l)
	if e != api.OK {
		return nil, e
	}
	if norm.Den < 1 {
		return nil, api.ErrForm
	}
	wanted := exact.Quotient(integer.Of(norm.Num), integer.Of(norm.Den))
	multiple := wanted.Over(x.Norm(a))
	if norm.Num < 0 || multiple.Cmp(exact.Whole(most)) > 0 {
		return nil, api.ErrRange
	}
	value, e := multiple.Frac()
	if e != api.OK || value.Den != 1 { // all norms are multiples of that of the lattice
		return nil, api.OK
	}
	b := exact.BasisOf(a, x)
	var rows []exact.Row
	for r := range b.OfValue(value.Num) {
		if len(rows) == api.MaxShort {
			return nil, api.ErrLarge
		}
		rows = append(rows, r)
	}
	return quats(rows, b.Den)
}

// maps returns all x with l = x m, as rows over a denominator.
// They are the elements with x m in l for which the norm and the volume of x m are those of l.
func maps(a api.Algebra, l, m exact.Lattice) (rows []exact.Row, den api.Int) {
	norm := l.Norm(a).Over(m.Norm(a))
	if norm.Times(norm).Cmp(l.Volume().Over(m.Volume())) != 0 {
		return nil, api.Int{}
	}
	into := l.Into(a, m)
	if into.Norm(a).Cmp(norm) != 0 { // it is a multiple of norm, and so are all norms
		return nil, api.Int{}
	}
	b := exact.BasisOf(a, into)
	return slices.Collect(b.OfValue(1)), b.Den
}

// Maps returns all maps from m onto l.
func Maps(a api.Algebra, l, m api.Lattice) ([]api.Quat, api.Errno) {
	if e := checkDefinite(a); e != api.OK {
		return nil, e
	}
	x, y, e := acceptBoth(a, l, m)
	if e != api.OK {
		return nil, e
	}
	return quats(maps(a, x, y))
}

// Equivalent returns the first map from m onto l, and whether there is one.
func Equivalent(a api.Algebra, l, m api.Lattice) (api.Quat, bool, api.Errno) {
	list, e := Maps(a, l, m)
	if e != api.OK || len(list) == 0 {
		return api.Quat{}, false, e
	}
	return list[0], true, api.OK
}

// Principal returns the first map from its right order onto l, and whether there is one.
func Principal(a api.Algebra, l api.Lattice) (api.Quat, bool, api.Errno) {
	if e := checkDefinite(a); e != api.OK {
		return api.Quat{}, false, e
	}
	right, e := RightOrder(a, l)
	if e != api.OK {
		return api.Quat{}, false, e
	}
	return Equivalent(a, l, right)
}
