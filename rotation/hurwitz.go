package rotation

import (
	"fourfold/algebra"
	"fourfold/api"
)

// hurwitz is a Hurwitz quaternion. Its coordinates are the halves of its four numbers, which are all even or all odd.
type hurwitz struct{ four }

// whole returns the integer n as a Hurwitz quaternion.
func whole(n int) hurwitz {
	return hurwitz{four{w: 2 * n}}
}

// hurwitzOf returns an element as a Hurwitz quaternion, if it is valid and is one.
func hurwitzOf(q api.Quat) (hurwitz, bool) {
	q, e := algebra.Normal(q)
	if e != api.OK {
		return hurwitz{}, false
	}
	n := fourOf(q)
	switch q.Den {
	case 1:
		return hurwitz{n.scaled(2)}, true
	case 2:
		return hurwitz{n}, n.w%2 != 0 && n.x%2 != 0 && n.y%2 != 0 && n.z%2 != 0
	}
	return hurwitz{}, false
}

// accept returns an element as a Hurwitz quaternion, or its error as one.
func accept(q api.Quat) (hurwitz, api.Errno) {
	if e := algebra.CheckQuat(q); e != api.OK {
		return hurwitz{}, e
	}
	x, is := hurwitzOf(q)
	if !is {
		return hurwitz{}, api.ErrOrder
	}
	if x.norm() > api.MaxHurwitz {
		return hurwitz{}, api.ErrLarge
	}
	return x, api.OK
}

// acceptBoth returns two Hurwitz quaternions, or the first error.
func acceptBoth(p, q api.Quat) (x, y hurwitz, e api.Errno) {
	x, e = accept(p)
	if e != api.OK {
		return hurwitz{}, hurwitz{}, e
	}
	y, e = accept(q)
	return x, y, e
}

// result returns x as api has it, in lowest terms.
func (x hurwitz) result() api.Quat {
	if x.w%2 != 0 {
		return api.Quat{W: x.w, X: x.x, Y: x.y, Z: x.z, Den: 2}
	}
	n := x.over(2)
	return api.Quat{W: n.w, X: n.x, Y: n.y, Z: n.z, Den: 1}
}

// results returns all elements of a list as api has them.
func results(list []hurwitz) []api.Quat {
	var quats []api.Quat
	for _, x := range list {
		quats = append(quats, x.result())
	}
	return quats
}

// isZero reports whether x is 0.
func (x hurwitz) isZero() bool {
	return x == hurwitz{}
}

// compare orders Hurwitz quaternions by their coordinates.
func (x hurwitz) compare(y hurwitz) int {
	return x.four.compare(y.four)
}

// norm returns the norm.
func (x hurwitz) norm() int {
	return x.squares() / 4
}

// by returns the product x y.
func (x hurwitz) by(y hurwitz) hurwitz {
	return hurwitz{x.times(y.four).over(2)}
}

// without returns d^-1 x, for a left divisor d of x.
func (x hurwitz) without(d hurwitz) hurwitz {
	return hurwitz{d.conjugate().times(x.four).over(2 * d.norm())}
}

// units returns the units, descending.
func units() []hurwitz {
	var list []hurwitz
	for w := 2; w >= -2; w-- {
		for x := 2; x >= -2; x-- {
			for y := 2; y >= -2; y-- {
				for z := 2; z >= -2; z-- {
					// Four squares have the sum 4 if one of them is 4, or all are 1: such numbers are all even or all odd.
					if u := (four{w, x, y, z}); u.squares() == 4 {
						list = append(list, hurwitz{u})
					}
				}
			}
		}
	}
	return list
}

// greatest returns the greatest one of the products of x with the units.
func (x hurwitz) greatest(units []hurwitz) hurwitz {
	first := x
	for _, u := range units {
		if y := x.by(u); y.compare(first) > 0 {
			first = y
		}
	}
	return first
}

// canonical returns the greatest associate.
func (x hurwitz) canonical() hurwitz {
	return x.greatest(units())
}

// content returns the content, for x other than 0.
func (x hurwitz) content() int {
	g := commonDivisor(x.w, x.x, x.y, x.z)
	// Divided by g the numbers are not all even; they are not all odd either if g is twice the content.
	if n := x.over(g); n.w%2 == 0 || n.x%2 == 0 || n.y%2 == 0 || n.z%2 == 0 {
		return g / 2
	}
	return g
}

// IsHurwitz reports whether x is a Hurwitz quaternion.
func IsHurwitz(x api.Quat) bool {
	_, is := hurwitzOf(x)
	return is
}

// Units returns the units, descending.
func Units() []api.Quat {
	return results(units())
}

// Norm returns the norm of a Hurwitz quaternion.
func Norm(x api.Quat) (int, api.Errno) {
	h, e := accept(x)
	if e != api.OK {
		return 0, e
	}
	return h.norm(), api.OK
}

// Times returns the product x y.
func Times(x, y api.Quat) (api.Quat, api.Errno) {
	g, h, e := acceptBoth(x, y)
	if e != api.OK {
		return api.Quat{}, e
	}
	if g.norm()*h.norm() > api.MaxHurwitz {
		return api.Quat{}, api.ErrLarge
	}
	return g.by(h).result(), api.OK
}

// Canonical returns the canonical associate.
func Canonical(x api.Quat) (api.Quat, api.Errno) {
	h, e := accept(x)
	if e != api.OK {
		return api.Quat{}, e
	}
	return h.canonical().result(), api.OK
}

// Content returns the content of a Hurwitz quaternion other than 0.
func Content(x api.Quat) (int, api.Errno) {
	h, e := accept(x)
	if e != api.OK {
		return 0, e
	}
	if h.isZero() {
		return 0, api.ErrZero
	}
	return h.content(), api.OK
}
