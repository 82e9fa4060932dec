package rotation

import (
	"math"

	"fourfold/api"
	"fourfold/integer"
)

// root returns the greatest integer whose square is at most n, for n that is not negative and has so few digits that this is exact.
func root(n int) int {
	return int(math.Sqrt(float64(n)))
}

// canonicalOf returns the canonical quaternions of norm n, ascending.
func canonicalOf(n int) []hurwitz {
	units := units()
	var list []hurwitz
	keep := func(q four) {
		if x := (hurwitz{q}); x.greatest(units) == x {
			list = append(list, x)
		}
	}
	// One of the associates has a positive first coordinate.
	for w := 1; w*w <= 4*n; w++ {
		r := root(4*n - w*w)
		r -= (r + w) % 2
		for x := -r; x <= r; x += 2 {
			s := root(4*n - w*w - x*x)
			s -= (s + w) % 2
			for y := -s; y <= s; y += 2 {
				// The square that is left is even or odd as the other ones are, as the sum of all four is a multiple of 4.
				rest := 4*n - w*w - x*x - y*y
				z := root(rest)
				if z*z != rest {
					continue
				}
				keep(four{w, x, y, -z})
				if z != 0 {
					keep(four{w, x, y, z})
				}
			}
		}
	}
	return list
}

// OfNorm returns the canonical quaternions of norm n, ascending.
func OfNorm(n int) ([]api.Quat, api.Errno) {
	if n < 1 || n > api.MaxIdeal {
		return nil, api.ErrRange
	}
	return results(canonicalOf(n)), api.OK
}

// checkModel returns the error of a model of a quaternion of this norm.
func checkModel(model []int, norm int) api.Errno {
	if len(model) < 1 || len(model) > api.MaxModel {
		return api.ErrRange
	}
	for _, p := range model {
		if p > api.MaxHurwitz || !integer.IsPrime(p) {
			return api.ErrPrime
		}
	}
	for _, p := range model {
		if norm%p != 0 {
			return api.ErrShape
		}
		norm /= p
	}
	if norm != 1 {
		return api.ErrShape
	}
	return api.OK
}

// acceptModel returns the quaternion that is to be factored along the model, or the first error.
func acceptModel(q api.Quat, model []int) (hurwitz, api.Errno) {
	x, e := accept(q)
	if e != api.OK {
		return hurwitz{}, e
	}
	if x.isZero() {
		return hurwitz{}, api.ErrZero
	}
	return x, checkModel(model, x.norm())
}

// Factor returns the factorization of x along the model whose factors but the last one are canonical.
func Factor(x api.Quat, model []int) ([]api.Quat, api.Errno) {
	rest, e := acceptModel(x, model)
	if e != api.OK {
		return nil, e
	}
	if rest.content() != 1 {
		return nil, api.ErrForm
	}
	last := len(model) - 1
	var factors []hurwitz
	for _, p := range model[:last] {
		// As p divides the norm of the rest but not the rest, their common divisor has the norm p.
		d := rest.commonDivisor(whole(p))
		factors, rest = append(factors, d), rest.without(d)
	}
	return results(append(factors, rest)), api.OK
}

// walks returns in how many ways as many steps as stated lead from a vertex of a tree to one at this distance, where each vertex has p + 1 neighbours.
func walks(p, steps, distance int) int {
	switch {
	case distance > steps:
		return 0
	case steps == 0:
		return 1
	case distance == 0:
		return (p + 1) * walks(p, steps-1, 1)
	}
	return walks(p, steps-1, distance-1) + p*walks(p, steps-1, distance+1)
}

// chains returns in how many ways right ideals of the powers of p, each one of index p^2 in the last one, lead down to the part of the ideal of x at p, where p to the power exponent is the part of the norm.
// At an odd p such ideals are lattices of rank 2, whose classes are the vertices of a tree; at 2 there is one ideal of each norm.
func (x hurwitz) chains(p, exponent int) int {
	if p == 2 {
		return 1
	}
	distance := exponent
	for content := x.content(); content%p == 0; content /= p {
		distance -= 2
	}
	return walks(p, exponent, distance)
}

// CountFactors returns the number of all factorizations of x along the model.
func CountFactors(x api.Quat, model []int) (int, api.Errno) {
	h, e := acceptModel(x, model)
	if e != api.OK {
		return 0, e
	}
	exponents := map[int]int{}
	for _, p := range model {
		exponents[p]++
	}
	count := 1
	for p, exponent := range exponents {
		count *= h.chains(p, exponent)
	}
	// The partial products are the generators of the ideals of a chain, up to units; the last one is x.
	for range model[1:] {
		count *= len(units())
	}
	return count, api.OK
}
