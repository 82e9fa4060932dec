package quadratic

import (
	"fourfold/api"
	"fourfold/lattice"
)

// reduced returns the form to which a minimal basis takes f, and this basis.
// The reductions of package lattice are Minkowski's: in at most four variables their diagonals are the minima, twice.
func (f form) reduced() (form, matrix) {
	r, _ := lattice.Reduce(f.gram.rows(f.n))
	return form{n: f.n, gram: matrixOf(r.Gram)}, matrixOf(r.Rows)
}

// longest returns the greatest value of the vectors of the basis: half of the greatest number of the diagonal.
func (f form) longest() int {
	greatest := 0
	for i := range f.n {
		greatest = max(greatest, f.gram[i][i]/2)
	}
	return greatest
}

// acceptReduced returns a form, reduced, and its minimal basis, or its error, or ErrLarge if there are too many vectors up to the last minimum.
func acceptReduced(f api.Form) (form, matrix, api.Errno) {
	g, e := accept(f)
	if e != api.OK {
		return form{}, matrix{}, e
	}
	r, basis := g.reduced()
	if _, e := lattice.Vectors(r.gram.rows(r.n), 2*r.longest()); e != api.OK {
		return form{}, matrix{}, e
	}
	return r, basis, api.OK
}

// Minima returns the minima.
func Minima(f api.Form) ([]int, api.Errno) {
	r, _, e := acceptReduced(f)
	if e != api.OK {
		return nil, e
	}
	var list []int
	for i := range r.n {
		list = append(list, r.gram[i][i]/2)
	}
	return list, api.OK
}

// Reduce returns a form to which a minimal basis takes f, and this basis.
func Reduce(f api.Form) (api.Form, [][]int, api.Errno) {
	r, basis, e := acceptReduced(f)
	if e != api.OK {
		return api.Form{}, nil, e
	}
	return r.result(), basis.rows(r.n), api.OK
}

// Label returns the label.
func Label(f api.Form) (api.Form, api.Errno) {
	r, _, e := acceptReduced(f)
	if e != api.OK {
		return api.Form{}, e
	}
	return r.label().result(), api.OK
}

// label returns the label of a reduced form.
func (f form) label() form {
	best, d := f, f.det()
	s := solver{n: f.n, vectors: f.ofValuesOf(f)}
	s.fits = func(t matrix, place int) bool {
		for j := 1; j <= place; j++ { // the first row of the matrix alone: it is what lists of vectors with this beginning have in common
			if p := f.product(t[0], t[j]); p != best.gram[0][j] {
				return p < best.gram[0][j]
			}
		}
		return true
	}
	s.found = func(t matrix) {
		g := f.taken(t)
		if compareMatrices(g.gram, best.gram) < 0 && g.det() == d { // else these vectors are no basis
			best = g
		}
	}
	s.search(matrix{}, 0)
	return best
}
