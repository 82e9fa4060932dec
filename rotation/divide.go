package rotation

import "fourfold/api"

// quotients returns the quaternion n/d with each coordinate rounded to an integer, and with each one rounded to half of an odd integer; d is positive.
func quotients(n four, d int) (integers, halves hurwitz) {
	nearest := func(c int) int { return 2 * floor(2*c+d, 2*d) }
	middle := func(c int) int { return 2*floor(c, d) + 1 }
	integers = hurwitz{four{nearest(n.w), nearest(n.x), nearest(n.y), nearest(n.z)}}
	halves = hurwitz{four{middle(n.w), middle(n.x), middle(n.y), middle(n.z)}}
	return integers, halves
}

// divided returns the quotient and the remainder of x by y, which is not 0.
func (x hurwitz) divided(y hurwitz) (quotient, remainder hurwitz) {
	// The factors 1/4 of the numerators and of the norm cancel.
	integers, halves := quotients(y.conjugate().times(x.four), y.squares())
	quotient, remainder = integers, hurwitz{x.minus(y.by(integers).four)}
	other := hurwitz{x.minus(y.by(halves).four)}
	if other.norm() < remainder.norm() {
		return halves, other
	}
	return quotient, remainder
}

// commonDivisor returns the canonical quaternion whose right ideal is that of x and y together.
func (x hurwitz) commonDivisor(y hurwitz) hurwitz {
	for !y.isZero() {
		_, rest := x.divided(y)
		x, y = y, rest
	}
	return x.canonical()
}

// Divide returns the quotient and the remainder of x by y.
func Divide(x, y api.Quat) (api.Division, api.Errno) {
	g, h, e := acceptBoth(x, y)
	if e != api.OK {
		return api.Division{}, e
	}
	if h.isZero() {
		return api.Division{}, api.ErrZero
	}
	quotient, remainder := g.divided(h)
	return api.Division{Quotient: quotient.result(), Remainder: remainder.result()}, api.OK
}

// Gcd returns the common divisor of x and y.
func Gcd(x, y api.Quat) (api.Quat, api.Errno) {
	g, h, e := acceptBoth(x, y)
	if e != api.OK {
		return api.Quat{}, e
	}
	return g.commonDivisor(h).result(), api.OK
}
