package quadratic

import (
	"fourfold/algebra"
	"fourfold/api"
	"fourfold/ideal"
	"fourfold/lattice"
	"fourfold/order"
)

// checkDefinite returns ErrDefinite if an algebra is not definite.
func checkDefinite(a api.Algebra) api.Errno {
	if definite, _ := algebra.Definite(a); !definite {
		return api.ErrDefinite
	}
	return api.OK
}

// normGram returns the traces of x times the conjugate of y, for rows x and y of numbers up to 2 MaxCoord: ints, of which those of x and x are even.
func normGram(a api.Algebra, rows [][]int) matrix {
	weights := [4]int{1, -a.A, -a.B, a.A * a.B}
	var m matrix
	for i, x := range rows {
		for j, y := range rows {
			for c, w := range weights {
				m[i][j] += 2 * w * x[c] * y[c]
			}
		}
	}
	return m
}

// over returns a matrix divided by a divisor of its numbers.
func (m matrix) over(divisor int) matrix {
	for i, row := range m {
		for j, n := range row {
			m[i][j] = n / divisor
		}
	}
	return m
}

// NormForm returns the norm form of a lattice.
func NormForm(a api.Algebra, l api.Lattice) (api.Form, api.Errno) {
	if _, e := ideal.Norm(a, l); e != api.OK {
		return api.Form{}, e
	}
	if e := checkDefinite(a); e != api.OK {
		return api.Form{}, e
	}
	normal, _ := lattice.Normal(l) // ideal.Norm refuses those whose normal form is too large
	// Norms and traces are taken without the denominator here, in the form and in the norm.
	gram := normGram(a, normal.Rows)
	norm := 0
	for i, row := range gram {
		norm = commonDivisor(norm, row[i]/2)
		for _, n := range row[:i] {
			norm = commonDivisor(norm, n)
		}
	}
	return form{n: len(normal.Rows), gram: gram.over(norm)}.fitting()
}

// Ternary returns the ternary form of an order.
func Ternary(a api.Algebra, o api.Lattice) (api.Form, api.Errno) {
	if e := order.Check(a, o); e != api.OK {
		return api.Form{}, e
	}
	if e := checkDefinite(a); e != api.OK {
		return api.Form{}, e
	}
	double, _ := lattice.Scale(o, api.Frac{Num: 2, Den: 1}) // order.Check refuses those whose normal form is too large
	l, _ := lattice.Sum(api.Lattice{Dim: 4, Rows: [][]int{{1, 0, 0, 0}}, Den: 1}, double)
	// The rows of a Hermite form but the first one have the trace 0, and span all elements that have it.
	gram := normGram(a, l.Rows[1:])
	return form{n: 3, gram: gram.over(l.Den * l.Den)}.fitting()
}
