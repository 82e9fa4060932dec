package lattice

import (
	"cmp"

	"fourfold/api"
)

// checkForm returns the error of a lattice and of a matrix that is a form on its space.
func checkForm(l api.Lattice, form [][]int) api.Errno {
	if e := cmp.Or(Check(l), CheckMatrix(form)); e != api.OK {
		return e
	}
	if !hasSize(form, l.Dim) {
		return api.ErrShape
	}
	return api.OK
}

// Dual returns the dual by a form.
func Dual(l api.Lattice, form [][]int) (api.Lattice, api.Errno) {
	if e := checkForm(l, form); e != api.OK {
		return api.Lattice{}, e
	}
	b := basisOf(l)
	if len(b.rows) < l.Dim {
		return api.Lattice{}, api.ErrNone
	}
	if determinant(numbers(form)).isZero() {
		return api.Lattice{}, api.ErrZero
	}
	// v is in the dual if v products / den is a row of integers: the combinations of the rows of the inverse of products, times den, are all such v.
	products := product(numbers(form), transpose(b.rows, l.Dim))
	inverse := scaled(adjugate(products), b.den)
	return span(l.Dim, inverse, determinant(products).absolute()).lattice()
}

// Scale returns a lattice times a fraction.
func Scale(l api.Lattice, by api.Frac) (api.Lattice, api.Errno) {
	if e := Check(l); e != api.OK {
		return api.Lattice{}, e
	}
	if !isEntry(by.Num) || !isDenominator(by.Den) {
		return api.Lattice{}, api.ErrRange
	}
	rows := scaled(numbers(l.Rows), numberOf(by.Num))
	return span(l.Dim, rows, numberOf(l.Den).times(numberOf(by.Den))).lattice()
}

// Image returns the image by a matrix.
func Image(l api.Lattice, m [][]int, den int) (api.Lattice, api.Errno) {
	if e := cmp.Or(Check(l), CheckMatrix(m)); e != api.OK {
		return api.Lattice{}, e
	}
	columns := width(m)
	if len(m) != l.Dim || columns < 1 || columns > api.MaxDim {
		return api.Lattice{}, api.ErrShape
	}
	if !isDenominator(den) {
		return api.Lattice{}, api.ErrRange
	}
	rows := product(numbers(l.Rows), numbers(m))
	return span(columns, rows, numberOf(l.Den).times(numberOf(den))).lattice()
}

// GramOf returns the Gram matrix of the rows of the normal form.
func GramOf(l api.Lattice, form [][]int) ([][]int, int, api.Errno) {
	if e := checkForm(l, form); e != api.OK {
		return nil, 0, e
	}
	b := basisOf(l)
	values := product(product(b.rows, numbers(form)), transpose(b.rows, l.Dim))
	lower, below := cancel(values, b.den.times(b.den))
	gram, e := entries(lower)
	den, ok := below.entry()
	if e != api.OK || !ok {
		return nil, 0, api.ErrLarge
	}
	return gram, den, api.OK
}
