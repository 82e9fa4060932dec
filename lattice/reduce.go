package lattice

import (
	"iter"
	"slices"

	"fourfold/api"
)

// steps yields, of each two opposite lists of k numbers from -1 to 1, one; not the list of zeros. They share their memory.
func steps(k int) iter.Seq[[]int] {
	return func(yield func([]int) bool) {
		w := make([]int, k)
		for c := range directions(k, 3) {
			for i, n := range c {
				w[i] = n
				if n == 2 {
					w[i] = -1
				}
			}
			if !yield(w) {
				return
			}
		}
	}
}

// excess returns the t other than 0 for which the unit vector i less t w has the least value, or 0 if no value is less than that of the unit vector itself.
func excess(g [][]int, i int, w []int) int {
	between := 0
	for j, n := range w {
		between += n * g[j][i]
	}
	length := value(g, w)
	switch {
	case 2*between > length:
		return (2*between + length) / (2 * length)
	case -2*between > length:
		return -((length - 2*between) / (2 * length))
	}
	return 0
}

// isReduced reports whether a Gram matrix, with numbers up to MaxEntry, is reduced.
func isReduced(g [][]int) bool {
	for i := range g {
		if i > 0 && g[i][i] < g[i-1][i-1] {
			return false
		}
		for w := range steps(i) {
			if excess(g, i, w) != 0 {
				return false
			}
		}
	}
	return true
}

// IsReduced reports whether a Gram matrix is reduced.
func IsReduced(g [][]int) (bool, api.Errno) {
	if e := CheckGram(g); e != api.OK {
		return false, e
	}
	return isReduced(g), api.OK
}

// Reduce returns a reduction.
func Reduce(g [][]int) (api.Reduced, api.Errno) {
	if e := CheckGram(g); e != api.OK {
		return api.Reduced{}, e
	}
	return reduction(g), api.OK
}

// reduction returns a reduction of a Gram matrix.
func reduction(g [][]int) api.Reduced {
	r := api.Reduced{Gram: make([][]int, len(g)), Rows: make([][]int, len(g))}
	for i, row := range g {
		r.Gram[i] = slices.Clone(row)
		r.Rows[i] = make([]int, len(g))
		r.Rows[i][i] = 1
	}
	// The first i vectors are reduced. Each step makes a value less, or brings two values into their order: so this ends.
	for i := 0; i < len(g); {
		shorten(r, i)
		if i > 0 && r.Gram[i][i] < r.Gram[i-1][i-1] {
			exchange(r, i)
			i--
			continue
		}
		i++
	}
	return r
}

// shorten makes vector i as short as steps along the vectors before it can.
func shorten(r api.Reduced, i int) {
	for done := false; !done; {
		done = true
		for w := range steps(i) {
			t := excess(r.Gram, i, w)
			if t == 0 {
				continue
			}
			done = false
			for j, n := range w {
				subtract(r, i, j, t*n)
			}
		}
	}
}

// subtract takes vector j, times by, from vector i.
func subtract(r api.Reduced, i, j, by int) {
	for k := range r.Gram {
		r.Rows[i][k] -= by * r.Rows[j][k]
		r.Gram[i][k] -= by * r.Gram[j][k]
	}
	for k := range r.Gram {
		r.Gram[k][i] -= by * r.Gram[k][j]
	}
}

// exchange exchanges vector i and the one before it.
func exchange(r api.Reduced, i int) {
	r.Rows[i], r.Rows[i-1] = r.Rows[i-1], r.Rows[i]
	r.Gram[i], r.Gram[i-1] = r.Gram[i-1], r.Gram[i]
	for _, row := range r.Gram {
		row[i], row[i-1] = row[i-1], row[i]
	}
}

// CheckReduced accepts a reduction.
func CheckReduced(g [][]int, r api.Reduced) api.Errno {
	if e := CheckGram(g); e != api.OK {
		return e
	}
	for _, m := range [][][]int{r.Rows, r.Gram} {
		if CheckMatrix(m) != api.OK || !hasSize(m, len(g)) {
			return api.ErrProof
		}
	}
	if !determinant(numbers(r.Rows)).absolute().isOne() || !takes(g, r) || !isReduced(r.Gram) {
		return api.ErrProof
	}
	return api.OK
}

// takes reports whether the matrix of r takes g to the Gram matrix of r.
func takes(g [][]int, r api.Reduced) bool {
	rows := numbers(r.Rows)
	taken, e := entries(product(product(rows, numbers(g)), transpose(rows, len(rows))))
	return e == api.OK && slices.EqualFunc(taken, r.Gram, slices.Equal)
}
