package algebra

import (
	"math"

	"fourfold/api"
	"fourfold/integer"
)

// isSplit reports whether a valid algebra splits.
func isSplit(a api.Algebra) bool {
	return !isDefinite(a) && len(ramified(a)) == 0
}

// zero returns x, y and z, not all of them 0, with A x^2 + B y^2 = z^2, in an algebra that splits.
// By Holzer's theorem, used on A and B without their squares and common divisors, there are some with x^2 <= |B| and y^2 <= |A|.
func zero(a api.Algebra) (x, y, z int) {
	for x = 0; x*x <= api.MaxParam; x++ {
		for y = 0; y*y <= api.MaxParam; y++ {
			value := a.A*x*x + a.B*y*y
			if value < 0 || x == 0 && y == 0 {
				continue
			}
			z = int(math.Sqrt(float64(value))) // exact: there are few digits
			if z*z == value {
				return x, y, z
			}
		}
	}
	return 0, 0, 0
}

// Divisor returns an element, not 0, of norm 0.
func Divisor(a api.Algebra) (api.Quat, api.Errno) {
	if e := Check(a); e != api.OK {
		return api.Quat{}, e
	}
	if !isSplit(a) {
		return api.Quat{}, api.ErrSplit
	}
	x, y, z := zero(a)
	return numerators{z, x, y, 0}.over(1)
}

// Split returns two matrices that represent the algebra.
func Split(a api.Algebra) (i, j api.Mat2, e api.Errno) {
	if e := Check(a); e != api.OK {
		return api.Mat2{}, api.Mat2{}, e
	}
	if !isSplit(a) {
		return api.Mat2{}, api.Mat2{}, api.ErrSplit
	}
	x, y, z := zero(a)
	whole := func(n int) api.Frac { return api.Frac{Num: n, Den: 1} }
	if y == 0 {
		root := z / x // whose square is A
		i = api.Mat2{A: whole(root), B: whole(0), C: whole(0), D: whole(-root)}
		j = api.Mat2{A: whole(0), B: whole(a.B), C: whole(1), D: whole(0)}
		return i, j, api.OK
	}
	// B is the norm of (z + x r)/y, where the square of r is A: i is multiplication by r, and j the change of the sign of r, followed by multiplication by that number.
	i = api.Mat2{A: whole(0), B: whole(a.A), C: whole(1), D: whole(0)}
	j = api.Mat2{A: fraction(z, y), B: fraction(-x*a.A, y), C: fraction(x, y), D: fraction(-z, y)}
	return i, j, api.OK
}

// square is a matrix with the rows (s[0], s[1]) and (s[2], s[3]). Its numbers are in normal form.
type square [4]api.Int

// isValid reports whether all fractions of a matrix are valid.
func isValid(m api.Mat2) bool {
	return isFraction(m.A) && isFraction(m.B) && isFraction(m.C) && isFraction(m.D)
}

// cleared returns a matrix times a common denominator of its fractions, and that denominator.
func cleared(m api.Mat2) (s square, den api.Int) {
	list := [4]api.Frac{m.A, m.B, m.C, m.D}
	den = integer.Of(1)
	for _, f := range list {
		den = integer.Mul(den, integer.Of(f.Den))
	}
	for i, f := range list {
		cofactor, _, _ := integer.DivMod(den, integer.Of(f.Den))
		s[i] = integer.Mul(integer.Of(f.Num), cofactor)
	}
	return s, den
}

// times returns the product s t.
func (s square) times(t square) square {
	dot := func(row, column int) api.Int {
		return integer.Add(integer.Mul(s[row], t[column]), integer.Mul(s[row+1], t[column+2]))
	}
	return square{dot(0, 0), dot(0, 1), dot(2, 0), dot(2, 1)}
}

// plus returns s + t.
func (s square) plus(t square) square {
	for i, n := range t {
		s[i] = integer.Add(s[i], n)
	}
	return s
}

// isScalar reports whether s is n times the unit matrix.
func (s square) isScalar(n api.Int) bool {
	for i, wanted := range [4]api.Int{n, {}, {}, n} {
		if integer.Cmp(s[i], wanted) != 0 {
			return false
		}
	}
	return true
}

// isRoot reports whether the square of s/den is n.
func (s square) isRoot(den api.Int, n int) bool {
	return s.times(s).isScalar(integer.Mul(integer.Of(n), integer.Mul(den, den)))
}

// CheckSplit accepts two matrices that represent the algebra.
func CheckSplit(a api.Algebra, i, j api.Mat2) api.Errno {
	if e := Check(a); e != api.OK {
		return e
	}
	if !isValid(i) || !isValid(j) {
		return api.ErrForm
	}
	s, below := cleared(i)
	t, under := cleared(j)
	if !s.isRoot(below, a.A) || !t.isRoot(under, a.B) || !s.times(t).plus(t.times(s)).isScalar(api.Int{}) {
		return api.ErrProof
	}
	return api.OK
}
