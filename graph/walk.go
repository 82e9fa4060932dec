package graph

import (
	"slices"

	"fourfold/api"
	"fourfold/integer"
)

// wide is an integer of any size: the sum of word k times 2^(32 k). All words but the last one are from 0 to 2^32 - 1, except while numbers are added; the last one has the sign.
type wide []int

// add adds x times by. The words may become greater than they should be, as long as they are ints.
func (w wide) add(x wide, by int) {
	for k, word := range x {
		w[k] += word * by
	}
}

// carry brings the words but the last one back to where they should be.
func (w wide) carry() {
	last := len(w) - 1
	for k := range w[:last] {
		w[k+1] += w[k] >> 32
		w[k] &= 1<<32 - 1
	}
}

// result returns the integer.
func (w wide) result() api.Int {
	var x api.Int
	for _, word := range slices.Backward(w) {
		x = integer.Add(integer.Mul(x, integer.Of(1<<32)), integer.Of(word))
	}
	return x
}

// row is a row of a matrix: an integer for each vertex. All have the same number of words.
type row []wide

// zeros returns a row of zeros with the words that walks of a length need: with each step the numbers become at most MaxDegree times as great, or MaxDegree + 1 times in the irreducible matrices. This is less than 2^9.
func zeros(vertices, length int) row {
	r := make(row, vertices)
	for v := range r {
		r[v] = make(wide, 9*length/32+1)
	}
	return r
}

// unit returns a row of the unit matrix.
func unit(vertices, v int) row {
	r := zeros(vertices, 0)
	r[v][0] = 1
	return r
}

// minus takes another row times by from r, and returns it.
func (r row) minus(by int, other row) row {
	for v, w := range r {
		w.add(other[v], -by)
		w.carry()
	}
	return r
}

// results returns the integers.
func (r row) results() []api.Int {
	var list []api.Int
	for _, w := range r {
		list = append(list, w.result())
	}
	return list
}

// step returns r times the matrix, for walks of a length.
// At most MaxVertices MaxDegree edges lead to a vertex: that is so few that all words are ints until they are carried.
func (l edges) step(r row, length int) row {
	next := zeros(len(l), length)
	for v, w := range r {
		for to, count := range l.runs(v) {
			next[to].add(w, count)
		}
	}
	for _, w := range next {
		w.carry()
	}
	return next
}

// walks returns the numbers of walks of a length from a vertex.
func (l edges) walks(from, length int) row {
	r := unit(len(l), from)
	for k := 1; k <= length; k++ {
		r = l.step(r, k)
	}
	return r
}

// irreducible returns a row of an irreducible matrix of a regular graph.
func (l edges) irreducible(v, degree, length int) row {
	before, r := zeros(len(l), 0), unit(len(l), v)
	for k := 1; k <= length; k++ {
		by := degree - 1
		if k == 2 {
			by = degree
		}
		before, r = r, l.step(r, k).minus(by, before)
	}
	return r
}

// isLength reports whether walks of length n are counted.
func isLength(n int) bool {
	const most = 100
	return n >= 0 && n <= most
}

// Walks returns the numbers of walks from a vertex.
func Walks(g api.Graph, from, n int) ([]api.Int, api.Errno) {
	l, e := accept(g)
	if e != api.OK {
		return nil, e
	}
	if !l.isVertex(from) {
		return nil, api.ErrMissing
	}
	if !isLength(n) {
		return nil, api.ErrRange
	}
	return l.walks(from, n).results(), api.OK
}

// Closed returns the number of closed walks.
func Closed(g api.Graph, n int) (api.Int, api.Errno) {
	l, e := acceptSmall(g)
	if e != api.OK {
		return api.Int{}, e
	}
	if !isLength(n) {
		return api.Int{}, api.ErrRange
	}
	var total api.Int
	for v := range l {
		total = integer.Add(total, l.walks(v, n)[v].result())
	}
	return total, api.OK
}

// Irreducible returns an irreducible matrix.
func Irreducible(g api.Graph, n int) ([][]api.Int, api.Errno) {
	const most = 20
	l, e := acceptSmall(g)
	if e != api.OK {
		return nil, e
	}
	degree, e := l.degree()
	if e != api.OK {
		return nil, e
	}
	if n < 0 || n > most {
		return nil, api.ErrRange
	}
	var m [][]api.Int
	for v := range l {
		m = append(m, l.irreducible(v, degree, n).results())
	}
	return m, api.OK
}
