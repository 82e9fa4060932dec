package brandt

import (
	"math/bits"
	"slices"

	"fourfold/api"
	"fourfold/exact"
	"fourfold/integer"
)

// polynomial is a polynomial from the constant coefficient on. Its numbers are in normal form, and the last one is not 0; 0 has none. The memory of the numbers is never changed.
type polynomial []api.Int

// product is two numbers that are multiplied.
type product [2]api.Int

// sum returns the sum of products.
func sum(products ...product) api.Int {
	var total api.Int
	for _, p := range products {
		total = integer.Add(total, integer.Mul(p[0], p[1]))
	}
	return total
}

// size returns the absolute value of x.
func size(x api.Int) api.Int {
	return api.Int{Words: x.Words}
}

// opposite returns -x.
func opposite(x api.Int) api.Int {
	return integer.Sub(api.Int{}, x)
}

// quotient returns x / d, for a divisor d of x that is not 0.
func quotient(x, d api.Int) api.Int {
	q, _, _ := integer.DivMod(x, d)
	return q
}

// power returns x^n.
func power(x api.Int, n int) api.Int {
	p := integer.Of(1)
	for range n {
		p = integer.Mul(p, x)
	}
	return p
}

// sign returns the sign of x, which is in normal form.
func sign(x api.Int) int {
	switch {
	case exact.IsZero(x):
		return 0
	case x.Neg:
		return -1
	}
	return 1
}

// trimmed returns the polynomial with these numbers, without the zeros at the end.
func trimmed(list []api.Int) polynomial {
	n := len(list)
	for n > 0 && exact.IsZero(list[n-1]) {
		n--
	}
	return list[:n]
}

// acceptPolynomial returns a polynomial, or its error.
func acceptPolynomial(list []api.Int) (polynomial, api.Errno) {
	const mostBits = 1000
	if len(list) > api.MaxPoly {
		return nil, api.ErrLarge
	}
	var p polynomial
	for _, x := range list {
		n := integer.Normal(x)
		if words := len(n.Words); words > 0 && 32*(words-1)+bits.Len32(n.Words[words-1]) > mostBits {
			return nil, api.ErrLarge
		}
		p = append(p, n)
	}
	if p = trimmed(p); len(p) == 0 {
		return nil, api.ErrZero
	}
	return p, api.OK
}

// result returns the numbers of p in memory of their own.
func (p polynomial) result() []api.Int {
	list := make([]api.Int, len(p))
	for i, x := range p {
		list[i] = integer.Normal(x)
	}
	return list
}

// lead returns the last number of p, which is not 0.
func (p polynomial) lead() api.Int {
	return p[len(p)-1]
}

// isConstant reports whether p, which is not 0, is constant.
func (p polynomial) isConstant() bool {
	return len(p) == 1
}

// each returns the polynomial whose numbers a function makes of those of p.
func (p polynomial) each(of func(x api.Int) api.Int) polynomial {
	list := make([]api.Int, len(p))
	for i, x := range p {
		list[i] = of(x)
	}
	return trimmed(list)
}

// over returns p / d, for a divisor d of all its numbers.
func (p polynomial) over(d api.Int) polynomial {
	return p.each(func(x api.Int) api.Int { return quotient(x, d) })
}

// primitive returns the primitive part of p.
func (p polynomial) primitive() polynomial {
	var d api.Int
	for _, x := range p {
		d = integer.Gcd(d, x)
	}
	return p.over(d)
}

// standard returns the primitive part of p, which is not 0, or its opposite: the one whose last number is positive.
func (p polynomial) standard() polynomial {
	q := p.primitive()
	if q.lead().Neg {
		return q.each(opposite)
	}
	return q
}

// derivative returns the derivative of p, which is not 0.
func (p polynomial) derivative() polynomial {
	var list polynomial
	for i, x := range p[1:] {
		list = append(list, integer.Mul(x, integer.Of(i+1)))
	}
	return list
}

// divided returns the polynomial with integers whose product with q, which is not 0, is p, and whether there is one.
func (p polynomial) divided(q polynomial) (polynomial, bool) {
	if len(p) < len(q) {
		return nil, false
	}
	rest := slices.Clone(p)
	list := make([]api.Int, len(p)-len(q)+1)
	for i := len(list) - 1; i >= 0; i-- {
		n, r, _ := integer.DivMod(rest[i+len(q)-1], q.lead())
		if !exact.IsZero(r) {
			return nil, false
		}
		list[i] = n
		for j, x := range q {
			rest[i+j] = integer.Sub(rest[i+j], integer.Mul(n, x))
		}
	}
	return list, len(trimmed(rest)) == 0
}

// stretched returns the polynomial whose value at n is that of p at n / den, times a power of den, which is positive.
func (p polynomial) stretched(den int) polynomial {
	list := make([]api.Int, len(p))
	by := integer.Of(1)
	for i := len(p) - 1; i >= 0; i-- {
		list[i] = integer.Mul(p[i], by)
		by = integer.Mul(by, integer.Of(den))
	}
	return list
}

// signAt returns the sign of p at num / den, for positive den.
func (p polynomial) signAt(num, den int) int {
	n, d := integer.Of(num), integer.Of(den)
	var value api.Int
	by := integer.Of(1)
	for i := len(p) - 1; i >= 0; i-- {
		value = sum(product{value, n}, product{p[i], by})
		by = integer.Mul(by, d)
	}
	return sign(value)
}

// Value returns the sign of p at x.
func Value(p []api.Int, x api.Frac) (int, api.Errno) {
	q, e := acceptPolynomial(p)
	if e != api.OK {
		return 0, e
	}
	if e := checkFraction(x); e != api.OK {
		return 0, e
	}
	return q.signAt(x.Num, x.Den), api.OK
}

// Divide returns the polynomial with integers whose product with q is p.
func Divide(p, q []api.Int) ([]api.Int, api.Errno) {
	f, e := acceptPolynomial(p)
	if e != api.OK {
		return nil, e
	}
	g, e := acceptPolynomial(q)
	if e != api.OK {
		return nil, e
	}
	r, ok := f.divided(g)
	if !ok {
		return nil, api.ErrNone
	}
	return r.result(), api.OK
}
