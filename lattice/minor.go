package lattice

import (
	"slices"

	"fourfold/api"
)

// Determinant returns the determinant.
func Determinant(m [][]int) (api.Int, api.Errno) {
	if e := CheckMatrix(m); e != api.OK {
		return api.Int{}, e
	}
	if !hasSize(m, len(m)) {
		return api.Int{}, api.ErrShape
	}
	return determinant(numbers(m)).result(), api.OK
}

// Rank returns the rank.
func Rank(m [][]int) (int, api.Errno) {
	if e := CheckMatrix(m); e != api.OK {
		return 0, e
	}
	rank, _ := eliminate(numbers(m))
	return rank, api.OK
}

// eliminate makes the numbers below the pivots of a zero, and returns the rank and the sign of the permutation of the rows.
// By Bareiss's divisions all numbers are minors of a on the way: they grow no further. Where no rows are exchanged, the pivots of a square matrix become its leading minors.
func eliminate(a [][]number) (rank, sign int) {
	sign = 1
	last := numberOf(1)
	for j := range width(a) {
		i := rank
		for i < len(a) && a[i][j].isZero() {
			i++
		}
		if i == len(a) {
			continue
		}
		if i != rank {
			a[i], a[rank] = a[rank], a[i]
			sign = -sign
		}
		pivot := a[rank]
		rank++
		for _, row := range a[rank:] {
			for k := j + 1; k < len(row); k++ {
				row[k] = pivot[j].times(row[k]).minus(row[j].times(pivot[k])).over(last)
			}
			row[j] = number{}
		}
		last = pivot[j]
	}
	return rank, sign
}

// determinant returns the determinant of a square matrix, and leaves it changed.
func determinant(a [][]number) number {
	rank, sign := eliminate(a)
	switch n := len(a); {
	case n == 0:
		return numberOf(1)
	case rank < n:
		return number{}
	default:
		return a[n-1][n-1].times(numberOf(sign))
	}
}

// adjugate returns the matrix whose product with the square matrix m is the determinant of m, times the unit matrix.
func adjugate(m [][]number) [][]number {
	n := len(m)
	inverse := make([][]number, n)
	for i := range inverse {
		inverse[i] = make([]number, n)
		for j := range n {
			minor := determinant(without(m, j, i))
			if (i+j)%2 == 1 {
				minor = minor.negative()
			}
			inverse[i][j] = minor
		}
	}
	return inverse
}

// without returns m without a row and a column.
func without(m [][]number, row, column int) [][]number {
	var rest [][]number
	for i, r := range m {
		if i != row {
			rest = append(rest, slices.Concat(r[:column], r[column+1:]))
		}
	}
	return rest
}
