package quadratic

import (
	"slices"

	"fourfold/integer"
	"fourfold/lattice"
)

// vector is the numbers of a vector. Those beyond the variables of a form are 0.
type vector [4]int

// matrix is rows, of which those beyond the variables of a form are 0.
type matrix [4]vector

// vectorOf returns a list of at most four numbers as a vector.
func vectorOf(x []int) vector {
	var v vector
	copy(v[:], x)
	return v
}

// matrixOf returns a list of at most four rows as a matrix.
func matrixOf(rows [][]int) matrix {
	var m matrix
	for i, r := range rows {
		m[i] = vectorOf(r)
	}
	return m
}

// rows returns the first n rows and columns in new memory.
func (m matrix) rows(n int) [][]int {
	list := make([][]int, n)
	for i := range list {
		list[i] = slices.Clone(m[i][:n])
	}
	return list
}

// times returns x m: the sum of the rows of m, times the numbers of x.
func (x vector) times(m matrix) vector {
	var sum vector
	for i, n := range x {
		for j, k := range m[i] {
			sum[j] += n * k
		}
	}
	return sum
}

// times returns the product of two matrices.
func (m matrix) times(o matrix) matrix {
	for i, row := range m {
		m[i] = row.times(o)
	}
	return m
}

// inverse returns the inverse of a unimodular matrix with n rows, for numbers that fit.
func (m matrix) inverse(n int) matrix {
	_, u, _ := lattice.Hermite(m.rows(n)) // u m is the unit matrix
	var inverse matrix
	for i, row := range u {
		for j, x := range row {
			inverse[i][j], _ = integer.Small(x)
		}
	}
	return inverse
}

// compareVectors and compareMatrices return -1, 0 or 1, in lexicographic order.
func compareVectors(x, y vector) int {
	return slices.Compare(x[:], y[:])
}

func compareMatrices(m, o matrix) int {
	return slices.CompareFunc(m[:], o[:], compareVectors)
}

// hasSize reports whether there are n rows of n numbers.
func hasSize(m [][]int, n int) bool {
	return len(m) == n && !slices.ContainsFunc(m, func(row []int) bool { return len(row) != n })
}

// isWithin reports whether all numbers are from -most to most.
func isWithin(m [][]int, most int) bool {
	for _, row := range m {
		for _, n := range row {
			if n < -most || n > most {
				return false
			}
		}
	}
	return true
}

// determinant returns the determinant of a square matrix, or 0 if it is no int.
func determinant(m [][]int) int {
	d, _ := lattice.Determinant(m)
	n, _ := integer.Small(d)
	return n
}

// isUnimodular reports whether the determinant of a square matrix is 1 or -1.
func isUnimodular(m [][]int) bool {
	d := determinant(m)
	return d == 1 || d == -1
}

// places returns the numbers from 0 to n - 1.
func places(n int) []int {
	list := make([]int, n)
	for i := range list {
		list[i] = i
	}
	return list
}

// placesBut returns the numbers from 0 to n - 1 but one.
func placesBut(n, one int) []int {
	return slices.Delete(places(n), one, one+1)
}

// commonDivisor returns the greatest common divisor, not negative.
func commonDivisor(a, b int) int {
	for b != 0 {
		a, b = b, a%b
	}
	return max(a, -a)
}
