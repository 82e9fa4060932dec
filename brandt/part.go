package brandt

import (
	"fourfold/api"
	"fourfold/integer"
)

// cuspidal returns the characteristic polynomial of the Brandt matrix of n, divided by x - s for the row sum s, or the error of Matrix.
func cuspidal(a api.Algebra, c api.Classes, n int) (polynomial, api.Errno) {
	m, e := Matrix(a, c, n)
	if e != api.OK {
		return nil, e
	}
	p, _ := characteristic(m).divided(polynomial{integer.Of(-rowSum(c.Disc, n)), integer.Of(1)})
	return p, api.OK
}

// Cuspidal returns the part of the characteristic polynomial of the Brandt matrix of n that belongs to cusp forms.
func Cuspidal(a api.Algebra, c api.Classes, n int) ([]api.Int, api.Errno) {
	p, e := cuspidal(a, c, n)
	if e != api.OK {
		return nil, e
	}
	return p.result(), api.OK
}

// New returns the part of the characteristic polynomial for big that belongs to new forms: without that of small, which is in it twice.
func New(a api.Algebra, big, small api.Classes, n int) ([]api.Int, api.Errno) {
	p, e := cuspidal(a, big, n)
	if e != api.OK {
		return nil, e
	}
	old, e := cuspidal(a, small, n)
	if e != api.OK {
		return nil, e
	}
	if big.Disc != small.Disc || big.Level%small.Level != 0 || !integer.IsPrime(big.Level/small.Level) {
		return nil, api.ErrShape
	}
	p, _ = p.divided(old)
	p, _ = p.divided(old)
	return p.result(), api.OK
}
