package order

import (
	"fourfold/api"
	"fourfold/integer"
)

// row is the coordinates of an element in the basis 1, i, j, k, times a denominator that stands elsewhere. Its numbers are of any size and in normal form; their memory is never changed.
type row [4]api.Int

// rational returns the row of n.
func rational(n int) row {
	return row{integer.Of(n)}
}

// rowOf returns the row of the numerators of an element.
func rowOf(n numbers) row {
	var r row
	for j, c := range n {
		r[j] = integer.Of(c)
	}
	return r
}

// isZero reports whether x, which is in normal form, is 0.
func isZero(x api.Int) bool {
	return len(x.Words) == 0
}

// floor returns x / y rounded down, for positive y.
func floor(x, y api.Int) api.Int {
	q, _, _ := integer.DivMod(x, y)
	return q
}

// residue returns the residue of x modulo m.
func residue(x api.Int, m int) int {
	_, rest, _ := integer.DivMod(x, integer.Of(m))
	n, _ := integer.Small(rest)
	return n
}

// minus returns r - by s.
func (r row) minus(by api.Int, s row) row {
	if isZero(by) {
		return r
	}
	for j, n := range s {
		if !isZero(n) {
			r[j] = integer.Sub(r[j], integer.Mul(by, n))
		}
	}
	return r
}

// scaled returns by r.
func (r row) scaled(by api.Int) row {
	for j, n := range r {
		r[j] = integer.Mul(by, n)
	}
	return r
}

// times returns r s in the algebra a.
func (r row) times(a api.Algebra, s row) row {
	var product row
	// The product of the numbers m and n of the basis 1, i, j, k is a multiple of the one whose number has the bits that are in one of them only.
	put := func(m, n, by int) {
		if isZero(r[m]) || isZero(s[n]) {
			return
		}
		term := integer.Mul(integer.Mul(r[m], s[n]), integer.Of(by))
		product[m^n] = integer.Add(product[m^n], term)
	}
	put(0, 0, 1)
	for n := 1; n < len(r); n++ {
		put(0, n, 1)
		put(n, 0, 1)
	}
	put(1, 1, a.A)
	put(2, 2, a.B)
	put(3, 3, -a.A*a.B)
	put(1, 2, 1)
	put(2, 1, -1)
	put(1, 3, a.A)
	put(3, 1, -a.A)
	put(3, 2, a.B)
	put(2, 3, -a.B)
	return product
}

// conjugate returns the row of the conjugate.
func (r row) conjugate() row {
	return row{integer.Add(r[0], r[0])}.minus(integer.Of(1), r)
}

// norm returns the norm of the element whose coordinates are r.
func (r row) norm(a api.Algebra) api.Int {
	return r.times(a, r.conjugate())[0]
}
