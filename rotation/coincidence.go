package rotation

import (
	"fourfold/api"
	"fourfold/lattice"
)

// The kinds of cubic lattices.
const (
	primitive = iota
	bodyCentred
	faceCentred
)

// cubic returns the cubic lattice of a kind, which is from 0 to 2.
func cubic(kind int) api.Lattice {
	switch kind {
	case bodyCentred:
		return api.Lattice{Dim: 3, Rows: [][]int{{1, 1, 1}, {0, 2, 0}, {0, 0, 2}}, Den: 2}
	case faceCentred:
		return api.Lattice{Dim: 3, Rows: [][]int{{1, 0, 1}, {0, 1, 1}, {0, 0, 2}}, Den: 2}
	}
	return api.Lattice{Dim: 3, Rows: [][]int{{1, 0, 0}, {0, 1, 0}, {0, 0, 1}}, Den: 1}
}

// columns returns the transposed matrix, which multiplies rows from the right as M multiplies columns from the left.
func columns(r api.Rotation) [][]int {
	var rows [][]int
	for i := range r.M {
		rows = append(rows, []int{r.M[0][i], r.M[1][i], r.M[2][i]})
	}
	return rows
}

// coincidence returns the intersection of a lattice with its image, and the index.
func coincidence(l api.Lattice, r api.Rotation) (api.Lattice, int, api.Errno) {
	image, e := lattice.Image(l, columns(r), r.Den)
	if e != api.OK {
		return api.Lattice{}, 0, e
	}
	common, e := lattice.Meet(l, image)
	if e != api.OK {
		return api.Lattice{}, 0, e
	}
	index, e := lattice.Index(l, common)
	if e != api.OK {
		return api.Lattice{}, 0, e
	}
	return common, index.Num, api.OK
}

// Coincidence returns the coincidence lattice of the rotation of x in the cubic lattice of a kind, and its index.
func Coincidence(kind int, x api.Quat) (api.Lattice, int, api.Errno) {
	t, e := acceptTurn(x)
	if e != api.OK {
		return api.Lattice{}, 0, e
	}
	if kind < primitive || kind > faceCentred {
		return api.Lattice{}, 0, api.ErrRange
	}
	r := t.matrix()
	if r.Den > api.MaxParam {
		return api.Lattice{}, 0, api.ErrLarge
	}
	return coincidence(cubic(kind), r)
}
