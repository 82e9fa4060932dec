package algebra

import "fourfold/api"

// numerators are those of 1, i, j and k in an element.
// Those of valid elements are at most 10^6, and those of their products at most about 10^18: sums of two such products are ints.
type numerators [4]int

// numeratorsOf returns the numerators of an element.
func numeratorsOf(q api.Quat) numerators {
	return numerators{q.W, q.X, q.Y, q.Z}
}

// over returns the element n/den in lowest terms, or ErrLarge if it does not fit; den is not 0.
func (n numerators) over(den int) (api.Quat, api.Errno) {
	g := commonDivisor(den, n[0], n[1], n[2], n[3])
	if den < 0 {
		g = -g
	}
	q := api.Quat{W: n[0] / g, X: n[1] / g, Y: n[2] / g, Z: n[3] / g, Den: den / g}
	if CheckQuat(q) != api.OK {
		return api.Quat{}, api.ErrLarge
	}
	return q, api.OK
}

// scaled returns n times a number.
func (n numerators) scaled(by int) numerators {
	return numerators{n[0] * by, n[1] * by, n[2] * by, n[3] * by}
}

// plus returns n + m.
func (n numerators) plus(m numerators) numerators {
	return numerators{n[0] + m[0], n[1] + m[1], n[2] + m[2], n[3] + m[3]}
}

// conjugate returns the numerators of the conjugate.
func (n numerators) conjugate() numerators {
	return numerators{n[0], -n[1], -n[2], -n[3]}
}

// times returns n m in the algebra a.
func (n numerators) times(a api.Algebra, m numerators) numerators {
	return numerators{
		n[0]*m[0] + a.A*n[1]*m[1] + a.B*n[2]*m[2] - a.A*a.B*n[3]*m[3],
		n[0]*m[1] + n[1]*m[0] + a.B*(n[3]*m[2]-n[2]*m[3]),
		n[0]*m[2] + n[2]*m[0] + a.A*(n[1]*m[3]-n[3]*m[1]),
		n[0]*m[3] + n[3]*m[0] + n[1]*m[2] - n[2]*m[1],
	}
}

// norm returns the norm of n in the algebra a.
func (n numerators) norm(a api.Algebra) int {
	return n.times(a, n.conjugate())[0]
}
