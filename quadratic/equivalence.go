package quadratic

import (
	"slices"

	"fourfold/api"
)

// isometries returns the matrices that take f to g, which has the same determinant, in lexicographic order.
// They are looked for between reduced forms, as these have few vectors of the values that matter.
func (f form) isometries(g form) []matrix {
	from, basis := f.reduced()
	to, other := g.reduced()
	back := other.inverse(g.n)
	var list []matrix
	s := solver{n: f.n, vectors: from.ofValuesOf(to)}
	s.fits = func(t matrix, place int) bool {
		for j := range place {
			if from.product(t[place], t[j]) != to.gram[place][j] {
				return false
			}
		}
		return true
	}
	s.found = func(t matrix) {
		list = append(list, back.times(t).times(basis))
	}
	s.search(matrix{}, 0)
	slices.SortFunc(list, compareMatrices)
	return list
}

// hasMany reports whether f has too many vectors of a value on the diagonal of g.
func (f form) hasMany(g form) bool {
	counts := f.theta(g.longest())
	for i := range g.n {
		if counts[g.gram[i][i]/2] > api.MaxVectors {
			return true
		}
	}
	return false
}

// Equivalence returns the first matrix that takes f to g.
func Equivalence(f, g api.Form) ([][]int, api.Errno) {
	from, to, e := acceptBoth(f, g)
	if e != api.OK {
		return nil, e
	}
	if from.n != to.n || from.det() != to.det() {
		return nil, api.ErrNone
	}
	if from.hasMany(to) {
		return nil, api.ErrLarge
	}
	list := from.isometries(to)
	if len(list) == 0 {
		return nil, api.ErrNone
	}
	return list[0].rows(from.n), api.OK
}

// CheckEquivalence accepts a unimodular matrix that takes f to g.
func CheckEquivalence(f, g api.Form, t [][]int) api.Errno {
	from, to, e := acceptBoth(f, g)
	if e != api.OK {
		return e
	}
	if from.n != to.n || !hasSize(t, from.n) {
		return api.ErrShape
	}
	if !isWithin(t, api.MaxCoord) {
		return api.ErrRange
	}
	if !isUnimodular(t) || from.taken(matrixOf(t)) != to {
		return api.ErrProof
	}
	return api.OK
}

// Automorphisms returns all automorphisms.
func Automorphisms(f api.Form) ([][][]int, api.Errno) {
	g, e := accept(f)
	if e != api.OK {
		return nil, e
	}
	if g.hasMany(g) {
		return nil, api.ErrLarge
	}
	var list [][][]int
	for _, t := range g.isometries(g) {
		list = append(list, t.rows(g.n))
	}
	return list, api.OK
}
