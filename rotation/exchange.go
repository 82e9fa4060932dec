package rotation

import (
	"slices"

	"fourfold/api"
	"fourfold/integer"
)

// exchanged returns the canonical y' of the norm of y with x y = y' x', for norms that are coprime.
func exchanged(x, y hurwitz) hurwitz {
	// At the primes of the norm of y the factor x' is a unit, and at all others y' is one: so the ideal of y' is that of x y and of the norm of y.
	return x.by(y).commonDivisor(whole(y.norm()))
}

// Exchange returns y' and x'.
func Exchange(x, y api.Quat) (api.Quat, api.Quat, api.Errno) {
	g, h, e := acceptBoth(x, y)
	switch {
	case e != api.OK:
		return api.Quat{}, api.Quat{}, e
	case g.isZero() || h.isZero():
		return api.Quat{}, api.Quat{}, api.ErrZero
	case commonDivisor(g.norm(), h.norm()) != 1:
		return api.Quat{}, api.Quat{}, api.ErrForm
	case g.norm()*h.norm() > api.MaxHurwitz:
		return api.Quat{}, api.Quat{}, api.ErrLarge
	}
	first := exchanged(g, h)
	return first.result(), g.by(h).without(first).result(), api.OK
}

// Permutation returns for each canonical quaternion of norm p the place of that for which x exchanges it.
func Permutation(x api.Quat, p int) ([]int, api.Errno) {
	h, e := accept(x)
	switch {
	case e != api.OK:
		return nil, e
	case h.isZero():
		return nil, api.ErrZero
	case p > api.MaxIdeal || !integer.IsPrime(p) || h.norm()%p == 0:
		return nil, api.ErrPrime
	case p*h.norm() > api.MaxHurwitz:
		return nil, api.ErrLarge
	}
	list := canonicalOf(p)
	var places []int
	for _, y := range list {
		place, _ := slices.BinarySearchFunc(list, exchanged(h, y), hurwitz.compare)
		places = append(places, place)
	}
	return places, api.OK
}
