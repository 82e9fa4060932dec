package graph

import (
	"iter"
	"slices"

	"fourfold/api"
)

// edges has the neighbours of each vertex of a valid graph.
type edges [][]int

// isVertex reports whether there is such a vertex.
func (l edges) isVertex(v int) bool {
	return v >= 0 && v < len(l)
}

// areVertices reports whether there are all these vertices.
func (l edges) areVertices(list []int) bool {
	return !slices.ContainsFunc(list, func(v int) bool { return !l.isVertex(v) })
}

// runs yields the different neighbours of a vertex, each one with the number of edges that lead to it.
func (l edges) runs(v int) iter.Seq2[int, int] {
	list := l[v]
	return func(yield func(int, int) bool) {
		for from := 0; from < len(list); {
			to := from + 1
			for to < len(list) && list[to] == list[from] {
				to++
			}
			if !yield(list[from], to-from) {
				return
			}
			from = to
		}
	}
}

// lead reports whether as many edges as stated, or more, lead from one vertex to another one.
func (l edges) lead(from, to, count int) bool {
	first, _ := slices.BinarySearch(l[from], to)
	last := first + count - 1
	return last < len(l[from]) && l[from][last] == to
}

// matrix returns the matrix.
func (l edges) matrix() [][]int {
	m := make([][]int, len(l))
	for v := range l {
		m[v] = make([]int, len(l))
		for w, count := range l.runs(v) {
			m[v][w] = count
		}
	}
	return m
}

// reversed returns the edges in the other direction.
func (l edges) reversed() edges {
	r := make(edges, len(l))
	for v, list := range l {
		for _, w := range list {
			r[w] = append(r[w], v)
		}
	}
	return r
}

// isUndirected reports whether the matrix is symmetric.
func (l edges) isUndirected() bool {
	return slices.EqualFunc(l, l.reversed(), slices.Equal[[]int])
}

// degree returns the degree of a regular graph, or ErrNone.
func (l edges) degree() (int, api.Errno) {
	if len(l) == 0 || slices.ContainsFunc(l, func(list []int) bool { return len(list) != len(l[0]) }) {
		return 0, api.ErrNone
	}
	return len(l[0]), api.OK
}
