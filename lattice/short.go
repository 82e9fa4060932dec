package lattice

import (
	"cmp"
	"iter"
	"slices"

	"fourfold/api"
)

// short is a vector and its value.
type short struct {
	value  int
	vector []int
}

// shortVectors yields the vectors other than 0 whose value is at most bound, of each two opposite ones one, in no special order.
// The numbers are chosen from the last one on. With the rows of the eliminated Gram matrix, u, whose pivots are the leading minors m1, m2, .., and m0 = 1, the value of x is the sum of (u[k] x)^2 / (m(k) m(k+1)): the rest of the bound, times m(k), says how far u[k] x may go.
func shortVectors(g [][]int, bound int) iter.Seq[short] {
	r := reduction(g) // else there may be many ways into the search, and few out of it
	n := len(g)
	u := numbers(r.Gram)
	eliminate(u)
	return func(yield func(short) bool) {
		x := make([]int, n)
		var choose func(k int, rest number, free bool) bool
		choose = func(k int, rest number, free bool) bool {
			if k < 0 {
				return !free || yield(short{bound - rest.small, combination(x, r.Rows)})
			}
			before := numberOf(1)
			if k > 0 {
				before = u[k-1][k-1]
			}
			s := section{pivot: u[k][k], offset: dot(u[k][k+1:], x[k+1:]), square: before.times(rest)}
			low, high := s.ends()
			if !free {
				low = 0
			}
			for x[k] = low; x[k] <= high; x[k]++ {
				if !choose(k-1, s.rest(x[k]), free || x[k] > 0) {
					return false
				}
			}
			return true
		}
		choose(n-1, u[n-1][n-1].times(numberOf(bound)), false)
	}
}

// section is the condition (pivot x + offset)^2 <= square.
type section struct{ pivot, offset, square number }

// ends returns the least and the greatest x, the greatest one less than the least one if there is none.
func (s section) ends() (low, high int) {
	root := s.square.root()
	return -root.plus(s.offset).over(s.pivot).small, root.minus(s.offset).over(s.pivot).small
}

// rest returns what is left of the square, divided by the pivot.
func (s section) rest(x int) number {
	y := s.pivot.times(numberOf(x)).plus(s.offset)
	return s.square.minus(y.times(y)).over(s.pivot)
}

// dot returns the sum of the products.
func dot(row []number, x []int) number {
	sum := number{}
	for i, n := range x {
		sum = sum.plus(row[i].times(numberOf(n)))
	}
	return sum
}

// combination returns the sum of the rows times the numbers of x, or its opposite: the one whose first number other than 0 is positive.
func combination(x []int, rows [][]int) []int {
	v := make([]int, len(x))
	for i, n := range x {
		for j, k := range rows[i] {
			v[j] += n * k
		}
	}
	first := slices.IndexFunc(v, func(n int) bool { return n != 0 })
	if v[first] < 0 {
		for j, n := range v {
			v[j] = -n
		}
	}
	return v
}

// upTo returns all vectors that shortVectors yields, or ErrLarge if there are too many.
func upTo(g [][]int, bound int) ([]short, api.Errno) {
	var list []short
	for s := range shortVectors(g, bound) {
		if len(list) == api.MaxVectors {
			return nil, api.ErrLarge
		}
		list = append(list, s)
	}
	return list, api.OK
}

// vectors returns the short vectors in their order.
func vectors(g [][]int, bound int) ([][]int, api.Errno) {
	list, e := upTo(g, bound)
	if e != api.OK {
		return nil, e
	}
	slices.SortFunc(list, func(a, b short) int {
		return cmp.Or(cmp.Compare(a.value, b.value), slices.Compare(a.vector, b.vector))
	})
	var sorted [][]int
	for _, s := range list {
		sorted = append(sorted, s.vector)
	}
	return sorted, api.OK
}

// Vectors returns the short vectors.
func Vectors(g [][]int, bound int) ([][]int, api.Errno) {
	const most = 1000000000
	if e := CheckGram(g); e != api.OK {
		return nil, e
	}
	if bound < 0 || bound > most {
		return nil, api.ErrRange
	}
	return vectors(g, bound)
}

// Minimum returns the least value and its vectors.
func Minimum(g [][]int) (int, [][]int, api.Errno) {
	if e := CheckGram(g); e != api.OK {
		return 0, nil, e
	}
	least := reduction(g).Gram[0][0]
	list, e := vectors(g, least)
	if e != api.OK {
		return 0, nil, e
	}
	return least, list, api.OK
}

// Counts returns how many vectors have each value.
func Counts(g [][]int, bound int) ([]int, api.Errno) {
	const most = 1000
	if e := CheckGram(g); e != api.OK {
		return nil, e
	}
	if bound < 0 || bound > most {
		return nil, api.ErrRange
	}
	list, e := upTo(g, bound)
	if e != api.OK {
		return nil, e
	}
	counts := make([]int, bound+1)
	counts[0] = 1
	for _, s := range list {
		counts[s.value] += 2
	}
	return counts, api.OK
}
