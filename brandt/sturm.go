package brandt

import (
	"cmp"
	"slices"

	"fourfold/api"
	"fourfold/integer"
)

// rest returns the remainder of f by g, which is not 0, times the size of the last number of g to the power of the difference of the degrees and 1.
func (f polynomial) rest(g polynomial) polynomial {
	lead := size(g.lead())
	r := slices.Clone(f)
	for shift := len(f) - len(g); shift >= 0; shift-- {
		by := r[shift+len(g)-1]
		if !g.lead().Neg {
			by = opposite(by)
		}
		for j := range r[:shift] {
			r[j] = integer.Mul(r[j], lead)
		}
		for j, x := range g {
			r[shift+j] = sum(product{r[shift+j], lead}, product{by, x})
		}
	}
	return trimmed(r)
}

// remainders returns f, g, whose degree is less than that of f, and the polynomials that follow in Euclid's algorithm, each one the opposite of a remainder, times a positive number; the last one is their greatest common divisor.
// The number is that of the subresultants: so they have integers, as small ones as determinants of those of f and g, without a common divisor being looked for.
func remainders(f, g polynomial) []polynomial {
	list := []polynomial{f}
	before, scale := integer.Of(1), integer.Of(1)
	for len(g) > 0 {
		list = append(list, g)
		if g.isConstant() {
			break
		}
		gap := len(f) - len(g)
		divisor := integer.Mul(before, power(scale, gap))
		f, g = g, f.rest(g).over(opposite(divisor))
		before = size(f.lead())
		scale = quotient(power(before, gap), power(scale, gap-1))
	}
	return list
}

// squarefree returns the squarefree part of p, which is not 0, and what Euclid's algorithm has found for p, in lowest terms, and its derivative.
func (p polynomial) squarefree() (s polynomial, list []polynomial) {
	p = p.standard()
	list = remainders(p, p.derivative())
	s, _ = p.divided(list[len(list)-1].standard())
	return s, list
}

// sturm returns the Sturm chain of p, which is not 0.
func (p polynomial) sturm() []polynomial {
	s, list := p.squarefree()
	if len(s) < len(p) {
		list = remainders(s, s.derivative())
	}
	for i, q := range list {
		list[i] = q.primitive()
	}
	return list
}

// changes returns how often the sign changes in a chain, zeros left out, for a function that finds the sign of a polynomial.
func changes(chain []polynomial, signOf func(p polynomial) int) int {
	count, last := 0, 0
	for _, p := range chain {
		s := signOf(p)
		if s*last < 0 {
			count++
		}
		if s != 0 {
			last = s
		}
	}
	return count
}

// changesAt returns the changes of sign at num / den.
func changesAt(chain []polynomial, num, den int) int {
	return changes(chain, func(p polynomial) int { return p.signAt(num, den) })
}

// changesAbove returns the changes of sign above all roots.
func changesAbove(chain []polynomial) int {
	return changes(chain, func(p polynomial) int { return sign(p.lead()) })
}

// changesBelow returns the changes of sign below all roots.
func changesBelow(chain []polynomial) int {
	return changes(chain, func(p polynomial) int {
		if len(p)%2 == 0 { // the degree is odd
			return -sign(p.lead())
		}
		return sign(p.lead())
	})
}

// Squarefree returns the squarefree part of p.
func Squarefree(p []api.Int) ([]api.Int, api.Errno) {
	q, e := acceptPolynomial(p)
	if e != api.OK {
		return nil, e
	}
	s, _ := q.squarefree()
	return s.result(), api.OK
}

// Sturm returns the Sturm chain of p.
func Sturm(p []api.Int) ([][]api.Int, api.Errno) {
	q, e := acceptPolynomial(p)
	if e != api.OK {
		return nil, e
	}
	var list [][]api.Int
	for _, r := range q.sturm() {
		list = append(list, r.result())
	}
	return list, api.OK
}

// between returns the number of different real roots that are greater than lo and at most hi.
func between(chain []polynomial, lo, hi api.Frac) int {
	return changesAt(chain, lo.Num, lo.Den) - changesAt(chain, hi.Num, hi.Den)
}

// Between returns the number of different real roots that are greater than lo and at most hi.
func Between(p []api.Int, lo, hi api.Frac) (int, api.Errno) {
	q, e := acceptPolynomial(p)
	if e != api.OK {
		return 0, e
	}
	if e := cmp.Or(checkFraction(lo), checkFraction(hi)); e != api.OK {
		return 0, e
	}
	if isLess(hi, lo) {
		return 0, api.ErrOrder
	}
	return between(q.sturm(), lo, hi), api.OK
}
