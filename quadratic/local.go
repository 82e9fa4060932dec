package quadratic

import (
	"math"

	"fourfold/api"
	"fourfold/integer"
	"fourfold/lattice"
)

// Diagonal returns the coefficients of a diagonalization.
func Diagonal(f api.Form) ([]api.Frac, api.Errno) {
	g, e := accept(f)
	if e != api.OK {
		return nil, e
	}
	var list []api.Frac
	for k := range g.n {
		num, den := g.leading(k+1), 2*g.leading(k)
		divisor := commonDivisor(num, den)
		list = append(list, api.Frac{Num: num / divisor, Den: den / divisor})
	}
	return list, api.OK
}

// strip returns n without its factors p, and their number, for n that is not 0 and a prime p.
func strip(n, p int) (unit, exponent int) {
	exponent, _ = integer.Valuation(n, p)
	for range exponent {
		n /= p
	}
	return n, exponent
}

// class returns a small positive number that differs from n by a square of the p-adic numbers only, for a prime p.
func class(n, p int) int {
	unit, exponent := strip(n, p)
	m := p
	if p == 2 { // units are squares if they are 1 modulo 8
		m = 8
	}
	small := (unit%m + m) % m
	if exponent%2 == 1 {
		small *= p
	}
	return small
}

// isSquare reports whether n is a square in the p-adic numbers, for a prime p.
func isSquare(n, p int) bool {
	small := class(n, p)
	if p == 2 {
		return small == 1
	}
	symbol, _ := integer.Legendre(small, p) // 0 if there is a factor p left
	return symbol == 1
}

// hasse returns the Hasse invariant at a prime p.
func (f form) hasse(p int) int {
	product := 1
	var earlier []int
	for k := range f.n {
		d := class(2*class(f.leading(k), p)*class(f.leading(k+1), p), p)
		for _, c := range earlier {
			symbol, _ := integer.Hilbert(c, d, p)
			product *= symbol
		}
		earlier = append(earlier, d)
	}
	return product
}

// isIsotropic reports whether f is isotropic at a prime p.
func (f form) isIsotropic(p int) bool {
	d := class(f.det()<<f.n, p) // the product of the diagonalization, but for squares
	switch f.n {
	case 2:
		return isSquare(-d, p)
	case 3:
		symbol, _ := integer.Hilbert(-1, -d, p)
		return f.hasse(p) == symbol
	default:
		symbol, _ := integer.Hilbert(-1, -1, p)
		return !isSquare(d, p) || f.hasse(p) == symbol
	}
}

// Hasse returns the Hasse invariant at p.
func Hasse(f api.Form, p int) (int, api.Errno) {
	g, e := accept(f)
	if e != api.OK {
		return 0, e
	}
	if !isAt(p) {
		return 0, api.ErrPrime
	}
	if p == 0 { // the diagonalization is positive
		return 1, api.OK
	}
	return g.hasse(p), api.OK
}

// Isotropic reports whether the form is isotropic at p.
func Isotropic(f api.Form, p int) (bool, api.Errno) {
	g, e := accept(f)
	if e != api.OK {
		return false, e
	}
	if !isAt(p) {
		return false, api.ErrPrime
	}
	return p != 0 && g.isIsotropic(p), api.OK
}

// scales returns how often the odd prime p divides each coefficient of a diagonalization over the p-adic integers, ascending.
func (f form) scales(p int) []int {
	factors, _, _, _ := lattice.Smith(f.gram.rows(f.n))
	var list []int
	for _, x := range factors {
		n, _ := integer.Small(x)
		_, exponent := strip(n, p)
		list = append(list, exponent)
	}
	return list
}

// sign returns the Legendre symbol of the determinant, without its factors p, of the first k variables of such a diagonalization, where the next variable has a greater scale.
// Of the determinants of k rows and the same columns, those with the fewest factors p differ from it by squares of units only: what other variables give to them has more of these factors.
func (f form) sign(k, p int) int {
	symbol, fewest := 0, math.MaxInt
	for set := range 1 << f.n {
		var list []int
		for i := range f.n {
			if set>>i&1 == 1 {
				list = append(list, i)
			}
		}
		if len(list) != k {
			continue
		}
		unit, exponent := strip(f.minor(list, list), p)
		if exponent < fewest {
			fewest = exponent
			symbol, _ = integer.Legendre(unit<<k, p) // that of Gram/2: the factor is a square
		}
	}
	return symbol
}

// Symbol returns the symbol at an odd prime p.
func Symbol(f api.Form, p int) ([]api.Piece, api.Errno) {
	g, e := accept(f)
	if e != api.OK {
		return nil, e
	}
	if p == 0 || p == 2 || !isAt(p) {
		return nil, api.ErrPrime
	}
	scales := g.scales(p)
	var list []api.Piece
	before, dim := 1, 0
	for k, scale := range scales {
		dim++
		if k+1 < g.n && scales[k+1] == scale {
			continue
		}
		sign := g.sign(k+1, p)
		list = append(list, api.Piece{Scale: scale, Dim: dim, Sign: sign * before})
		before, dim = sign, 0
	}
	return list, api.OK
}
