package exact

import (
	"fourfold/api"
	"fourfold/integer"
)

// Row is the coordinates of an element in the basis 1, i, j, k, times a denominator that stands elsewhere. Its numbers are of any size and in normal form; their memory is never changed.
type Row [4]api.Int

// Rational returns the row of n.
func Rational(n int) Row {
	return Row{integer.Of(n)}
}

// RowOf returns the row of the numerators of an element.
func RowOf(n [4]int) Row {
	var r Row
	for j, c := range n {
		r[j] = integer.Of(c)
	}
	return r
}

// IsZero reports whether x, which is in normal form, is 0.
func IsZero(x api.Int) bool {
	return len(x.Words) == 0
}

// Floor returns x / y rounded down, for positive y.
func Floor(x, y api.Int) api.Int {
	q, _, _ := integer.DivMod(x, y)
	return q
}

// Residue returns the residue of x modulo m.
func Residue(x api.Int, m int) int {
	_, rest, _ := integer.DivMod(x, integer.Of(m))
	n, _ := integer.Small(rest)
	return n
}

// Minus returns r - by s.
func (r Row) Minus(by api.Int, s Row) Row {
	if IsZero(by) {
		return r
	}
	for j, n := range s {
		if !IsZero(n) {
			r[j] = integer.Sub(r[j], integer.Mul(by, n))
		}
	}
	return r
}

// Scaled returns by r.
func (r Row) Scaled(by api.Int) Row {
	for j, n := range r {
		r[j] = integer.Mul(by, n)
	}
	return r
}

// Times returns r s in the algebra a.
func (r Row) Times(a api.Algebra, s Row) Row {
	var product Row
	// The product of the numbers m and n of the basis 1, i, j, k is a multiple of the one whose number has the bits that are in one of them only.
	put := func(m, n, by int) {
		if IsZero(r[m]) || IsZero(s[n]) {
			return
		}
		term := integer.Mul(integer.Mul(r[m], s[n]), integer.Of(by))
		product[m^n] = integer.Add(product[m^n], term)
	}
	put(0, 0, 1)
	for n := 1; n < len(r); n++ {
		put(0, n, 1)
		put(n, 0, 1)
	}
	put(1, 1, a.A)
	put(2, 2, a.B)
	put(3, 3, -a.A*a.B)
	put(1, 2, 1)
	put(2, 1, -1)
	put(1, 3, a.A)
	put(3, 1, -a.A)
	put(3, 2, a.B)
	put(2, 3, -a.B)
	return product
}

// Conjugate returns the row of the conjugate.
func (r Row) Conjugate() Row {
	return Row{integer.Add(r[0], r[0])}.Minus(integer.Of(1), r)
}

// dot returns the rational part of r times the conjugate of s.
func (r Row) dot(a api.Algebra, s Row) api.Int {
	var sum api.Int
	for j, by := range [4]int{1, -a.A, -a.B, a.A * a.B} {
		if !IsZero(r[j]) && !IsZero(s[j]) {
			sum = integer.Add(sum, integer.Mul(integer.Mul(r[j], s[j]), integer.Of(by)))
		}
	}
	return sum
}

// Norm returns the norm of the element whose coordinates are r.
func (r Row) Norm(a api.Algebra) api.Int {
	return r.dot(a, r)
}

// Between returns the trace of r times the conjugate of s: the norm of r + s, less those of r and s.
func (r Row) Between(a api.Algebra, s Row) api.Int {
	half := r.dot(a, s)
	return integer.Add(half, half)
}
