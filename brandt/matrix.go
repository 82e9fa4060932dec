package brandt

import (
	"slices"

	"fourfold/api"
	"fourfold/lattice"
)

// mostElement is the greatest size of an element of a matrix, and of an eigenvalue.
const mostElement = 1000000

// isElement reports whether n is at most mostElement in size.
func isElement(n int) bool {
	return n >= -mostElement && n <= mostElement
}

// checkMatrix returns the error of a matrix.
func checkMatrix(m [][]int) api.Errno {
	if len(m) == 0 || slices.ContainsFunc(m, func(row []int) bool { return len(row) != len(m) }) {
		return api.ErrShape
	}
	if len(m) > api.MaxClasses {
		return api.ErrLarge
	}
	for _, row := range m {
		if slices.ContainsFunc(row, func(n int) bool { return !isElement(n) }) {
			return api.ErrRange
		}
	}
	return api.OK
}

// Times returns the product of two matrices.
// None of its elements can be too large: they are at most 60 10^12.
func Times(m, k [][]int) ([][]int, api.Errno) {
	if e := checkMatrix(m); e != api.OK {
		return nil, e
	}
	if e := checkMatrix(k); e != api.OK {
		return nil, e
	}
	if len(m) != len(k) {
		return nil, api.ErrShape
	}
	p := make([][]int, len(m))
	for i, row := range m {
		p[i] = make([]int, len(k))
		for l, x := range row {
			for j, y := range k[l] {
				p[i][j] += x * y
			}
		}
	}
	return p, api.OK
}

// Kernel returns a basis of the vectors that m multiplies by k.
func Kernel(m [][]int, k int) ([][]int, api.Errno) {
	if e := checkMatrix(m); e != api.OK {
		return nil, e
	}
	if !isElement(k) {
		return nil, api.ErrRange
	}
	rest := make([][]int, len(m))
	for i, row := range m {
		rest[i] = slices.Clone(row)
		rest[i][i] -= k
	}
	return lattice.Kernel(rest)
}
