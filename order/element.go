package order

import (
	"cmp"
	"math"
	"slices"

	"fourfold/algebra"
	"fourfold/api"
)

// numeratorsOf returns the numerators of an element.
func numeratorsOf(q api.Quat) numbers {
	return numbers{q.W, q.X, q.Y, q.Z}
}

// commonDivisor returns the greatest common divisor, not negative.
func commonDivisor(list ...int) int {
	g := 0
	for _, n := range list {
		for n != 0 {
			g, n = n, g%n
		}
	}
	return max(g, -g)
}

// over returns the element n / den in lowest terms. It may have greater numbers than elements in arguments.
func (c numbers) over(den int) api.Quat {
	g := commonDivisor(den, c[0], c[1], c[2], c[3])
	return api.Quat{W: c[0] / g, X: c[1] / g, Y: c[2] / g, Z: c[3] / g, Den: den / g}
}

// acceptDefinite is accept for definite algebras.
func acceptDefinite(a api.Algebra, l api.Lattice) (ring, api.Errno) {
	r, e := accept(a, l)
	if e != api.OK {
		return ring{}, e
	}
	if definite, _ := algebra.Definite(a); !definite {
		return ring{}, api.ErrDefinite
	}
	return r, api.OK
}

// nearest returns an integer next to n / d, for positive d: 0 if 2 n is not greater than d in size.
func nearest(n, d int) int {
	t := n / d
	rest := n - t*d
	switch {
	case 2*rest > d:
		return t + 1
	case 2*rest < -d:
		return t - 1
	}
	return t
}

// reduced returns the numerators of a basis of an order of a definite algebra, the longest vector first: no vector becomes shorter by a sum or difference of other ones.
// So this basis is reduced as Minkowski's are: the last vector is a shortest one, of norm 1 as 1 is, and the product of the norms is at most 4 times the determinant of the norm form.
// At first a vector times itself is about 10^18 at most, and a sum of three vectors 9 times that, which is an int still.
func (r ring) reduced() [4]numbers {
	basis := r.basis()
	for done := false; !done; {
		done = true
		for c := range combinations(each(-1), each(1)) {
			if !isDirection(c) { // it is 0, or opposite to one
				continue
			}
			w := c.of(basis)
			for i, b := range basis {
				if c[i] != 0 {
					continue
				}
				t := nearest(product(r.algebra, b, w), product(r.algebra, w, w))
				basis[i] = b.plus(-t, w)
				done = done && t == 0
			}
		}
	}
	length := func(b numbers) int { return product(r.algebra, b, b) }
	slices.SortFunc(basis[:], func(b, c numbers) int { return cmp.Compare(length(c), length(b)) })
	return basis
}

// solutions returns the integers t with t^2 + b t = c.
func solutions(b, c int) []int {
	square := b*b + 4*c
	if square < 0 {
		return nil
	}
	root := int(math.Sqrt(float64(square))) // exact: there are few digits
	switch {
	case root*root != square:
		return nil
	case root == 0:
		return []int{-b / 2}
	}
	return []int{(-b - root) / 2, (-b + root) / 2}
}

// elements returns the numerators of all elements of the norm n, in their order, for an order of a definite algebra.
func (r ring) elements(n int) []numbers {
	basis := r.reduced()
	square := r.lattice.Den * r.lattice.Den
	// As the product of the norms is that small, the norm of an element is at least a quarter of that of its part along each vector.
	var low, high numbers
	for i, b := range basis[:3] {
		norm := product(r.algebra, b, b) / square
		high[i] = int(math.Sqrt(float64(4 * n / norm)))
		low[i] = -high[i]
	}
	unit := basis[3]
	var list []numbers
	for c := range combinations(low, high) {
		x := c.of(basis)
		norm, trace := product(r.algebra, x, x)/square, 2*product(r.algebra, x, unit)/square
		for _, t := range solutions(trace, n-norm) {
			list = append(list, x.plus(t, unit))
		}
	}
	slices.SortFunc(list, func(x, y numbers) int { return slices.Compare(x[:], y[:]) })
	return list
}

// quats returns elements with these numerators in lowest terms.
func (r ring) quats(list []numbers) []api.Quat {
	var result []api.Quat
	for _, c := range list {
		result = append(result, c.over(r.lattice.Den))
	}
	return result
}

// Elements returns all elements of the norm n.
func Elements(a api.Algebra, l api.Lattice, n int) ([]api.Quat, api.Errno) {
	r, e := acceptDefinite(a, l)
	if e != api.OK {
		return nil, e
	}
	if n < 0 || n > api.MaxNorm {
		return nil, api.ErrRange
	}
	return r.quats(r.elements(n)), api.OK
}

// Embeddings returns all elements with the trace and the norm of t.
func Embeddings(a api.Algebra, l api.Lattice, t api.Type) ([]api.Quat, api.Errno) {
	all, e := Elements(a, l, t.Norm)
	if e != api.OK {
		return nil, e
	}
	var list []api.Quat
	for _, q := range all {
		if 2*q.W/q.Den == t.Trace { // no rest is lost: traces in an order are integers
			list = append(list, q)
		}
	}
	return list, api.OK
}
