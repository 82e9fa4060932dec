package lattice

import (
	"slices"

	"fourfold/api"
)

// CheckGram returns the error of a Gram matrix.
func CheckGram(g [][]int) api.Errno {
	const most = 4
	if e := CheckMatrix(g); e != api.OK {
		return e
	}
	if len(g) < 1 || len(g) > most || !hasSize(g, len(g)) {
		return api.ErrShape
	}
	for _, row := range g {
		for _, n := range row {
			if n < -api.MaxGram || n > api.MaxGram {
				return api.ErrRange
			}
		}
	}
	if !isSymmetric(g) || !isPositive(g) {
		return api.ErrForm
	}
	return api.OK
}

// isSymmetric reports whether a square matrix is symmetric.
func isSymmetric(g [][]int) bool {
	for i, row := range g {
		for j := range i {
			if row[j] != g[j][i] {
				return false
			}
		}
	}
	return true
}

// isPositive reports whether the leading minors of a square matrix are positive.
func isPositive(g [][]int) bool {
	all := numbers(g)
	for k := range all {
		var corner [][]number
		for _, row := range all[:k+1] {
			corner = append(corner, slices.Clone(row[:k+1]))
		}
		if determinant(corner).sign() <= 0 {
			return false
		}
	}
	return true
}

// Value returns the value of a vector.
func Value(g [][]int, v []int) (int, api.Errno) {
	const most = 100000
	if e := CheckGram(g); e != api.OK {
		return 0, e
	}
	if len(v) != len(g) {
		return 0, api.ErrShape
	}
	for _, n := range v {
		if n < -most || n > most {
			return 0, api.ErrRange
		}
	}
	return value(g, v), api.OK
}

// value returns v g v^t, where v may be shorter than g: then 0 stands for what is missing.
func value(g [][]int, v []int) int {
	sum := 0
	for i, n := range v {
		for j, k := range v {
			sum += n * k * g[i][j]
		}
	}
	return sum
}
