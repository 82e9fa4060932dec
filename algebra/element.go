package algebra

import (
	"cmp"

	"fourfold/api"
)

// CheckQuat returns the error of an element.
func CheckQuat(q api.Quat) api.Errno {
	if q.Den < 1 || q.Den > api.MaxCoord {
		return api.ErrForm
	}
	for _, n := range numeratorsOf(q) {
		if !isWithin(n, api.MaxCoord) {
			return api.ErrForm
		}
	}
	return api.OK
}

// checkQuats returns the first error of elements.
func checkQuats(list ...api.Quat) api.Errno {
	for _, q := range list {
		if e := CheckQuat(q); e != api.OK {
			return e
		}
	}
	return api.OK
}

// Normal returns the element in lowest terms.
func Normal(q api.Quat) (api.Quat, api.Errno) {
	if e := CheckQuat(q); e != api.OK {
		return api.Quat{}, e
	}
	return numeratorsOf(q).over(q.Den)
}

// add returns p + q, for valid elements.
func add(p, q api.Quat) (api.Quat, api.Errno) {
	return numeratorsOf(p).scaled(q.Den).plus(numeratorsOf(q).scaled(p.Den)).over(p.Den * q.Den)
}

// Add returns p + q.
func Add(p, q api.Quat) (api.Quat, api.Errno) {
	if e := checkQuats(p, q); e != api.OK {
		return api.Quat{}, e
	}
	return add(p, q)
}

// Sub returns p - q.
func Sub(p, q api.Quat) (api.Quat, api.Errno) {
	if e := checkQuats(p, q); e != api.OK {
		return api.Quat{}, e
	}
	return add(p, api.Quat{W: -q.W, X: -q.X, Y: -q.Y, Z: -q.Z, Den: q.Den})
}

// Scale returns the product of an element and a fraction.
func Scale(q api.Quat, by api.Frac) (api.Quat, api.Errno) {
	if e := CheckQuat(q); e != api.OK {
		return api.Quat{}, e
	}
	if !isFraction(by) {
		return api.Quat{}, api.ErrForm
	}
	return numeratorsOf(q).scaled(by.Num).over(q.Den * by.Den)
}

// mul returns p q, for valid elements.
func mul(a api.Algebra, p, q api.Quat) (api.Quat, api.Errno) {
	return numeratorsOf(p).times(a, numeratorsOf(q)).over(p.Den * q.Den)
}

// Mul returns p q.
func Mul(a api.Algebra, p, q api.Quat) (api.Quat, api.Errno) {
	if e := cmp.Or(Check(a), checkQuats(p, q)); e != api.OK {
		return api.Quat{}, e
	}
	return mul(a, p, q)
}

// Conj returns the conjugate.
func Conj(q api.Quat) (api.Quat, api.Errno) {
	if e := CheckQuat(q); e != api.OK {
		return api.Quat{}, e
	}
	return numeratorsOf(q).conjugate().over(q.Den)
}

// trace returns the trace of a valid element.
func trace(q api.Quat) api.Frac {
	return fraction(2*q.W, q.Den)
}

// Trace returns the trace.
func Trace(q api.Quat) (api.Frac, api.Errno) {
	if e := CheckQuat(q); e != api.OK {
		return api.Frac{}, e
	}
	return trace(q), api.OK
}

// norm returns the norm of a valid element.
func norm(a api.Algebra, q api.Quat) api.Frac {
	return fraction(numeratorsOf(q).norm(a), q.Den*q.Den)
}

// Norm returns the norm.
func Norm(a api.Algebra, q api.Quat) (api.Frac, api.Errno) {
	if e := cmp.Or(Check(a), CheckQuat(q)); e != api.OK {
		return api.Frac{}, e
	}
	return norm(a, q), api.OK
}

// Polynomial returns the coefficients of the minimal polynomial, from the constant one on.
func Polynomial(a api.Algebra, q api.Quat) ([]api.Frac, api.Errno) {
	if e := cmp.Or(Check(a), CheckQuat(q)); e != api.OK {
		return nil, e
	}
	one := api.Frac{Num: 1, Den: 1}
	rational := numerators{q.W}
	if numeratorsOf(q) == rational {
		return []api.Frac{fraction(-q.W, q.Den), one}, api.OK
	}
	return []api.Frac{norm(a, q), fraction(-2*q.W, q.Den), one}, api.OK
}

// Integral reports whether the trace and the norm are integers.
func Integral(a api.Algebra, q api.Quat) (bool, api.Errno) {
	if e := cmp.Or(Check(a), CheckQuat(q)); e != api.OK {
		return false, e
	}
	return trace(q).Den == 1 && norm(a, q).Den == 1, api.OK
}

// inverse returns the inverse of a valid element.
func inverse(a api.Algebra, q api.Quat) (api.Quat, api.Errno) {
	n := numeratorsOf(q)
	size := n.norm(a)
	if size == 0 {
		return api.Quat{}, api.ErrZero
	}
	return n.conjugate().scaled(q.Den).over(size)
}

// Inverse returns the inverse.
func Inverse(a api.Algebra, q api.Quat) (api.Quat, api.Errno) {
	if e := cmp.Or(Check(a), CheckQuat(q)); e != api.OK {
		return api.Quat{}, e
	}
	return inverse(a, q)
}

// Power returns q to the power n.
func Power(a api.Algebra, q api.Quat, n int) (api.Quat, api.Errno) {
	if e := cmp.Or(Check(a), CheckQuat(q)); e != api.OK {
		return api.Quat{}, e
	}
	if !isWithin(n, api.MaxPower) {
		return api.Quat{}, api.ErrRange
	}
	if n < 0 {
		p, e := inverse(a, q)
		if e != api.OK {
			return api.Quat{}, e
		}
		q, n = p, -n
	}
	// Not by squares: each power in between has to fit.
	power := api.Quat{W: 1, Den: 1}
	for range n {
		next, e := mul(a, power, q)
		if e != api.OK {
			return api.Quat{}, e
		}
		power = next
	}
	return power, api.OK
}
