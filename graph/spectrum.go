package graph

import (
	"fourfold/api"
	"fourfold/brandt"
)

// Polynomial returns the characteristic polynomial of the matrix.
func Polynomial(g api.Graph) ([]api.Int, api.Errno) {
	l, e := acceptSmall(g)
	if e != api.OK {
		return nil, e
	}
	if len(l) == 0 {
		return nil, api.ErrNone
	}
	return brandt.Characteristic(l.matrix())
}

// rootsBetween returns the number of different real roots of p that are greater than low and at most high.
func rootsBetween(p []api.Int, low, high int) int {
	count, _ := brandt.Between(p, api.Frac{Num: low, Den: 1}, api.Frac{Num: high, Den: 1})
	return count
}

// isReal reports whether all roots of the characteristic polynomial of a matrix are real, for a regular graph: they are at most its degree in size.
func isReal(m [][]int, degree int) bool {
	p, _ := brandt.Characteristic(m)
	simple, _ := brandt.Squarefree(p)
	return rootsBetween(simple, -degree-1, degree) == len(simple)-1
}

// Ramanujan reports whether a graph is a Ramanujan graph.
// The squares of the roots are those of the characteristic polynomial of the squared matrix. None is greater than that of the degree, and this one is one of them: no other one may be beyond the bound.
func Ramanujan(g api.Graph) (bool, api.Errno) {
	const (
		mostVertices = 24
		mostDegree   = 50
	)
	l, e := accept(g)
	if e != api.OK {
		return false, e
	}
	degree, e := l.degree()
	if e != api.OK {
		return false, e
	}
	if len(l) > mostVertices || degree > mostDegree {
		return false, api.ErrLarge
	}
	m := l.matrix()
	if !isReal(m, degree) {
		return false, api.ErrForm
	}
	square, _ := brandt.Times(m, m)
	p, _ := brandt.Characteristic(square)
	return rootsBetween(p, 4*(degree-1), degree*degree) <= 1, api.OK
}
