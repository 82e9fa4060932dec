package graph

import (
	"slices"

	"fourfold/api"
)

// tree is what a search from its root has reached.
type tree struct {
	distance []int // of each vertex from the root, or unknown
	before   []int // the vertex from which each one has been reached first, or unknown
}

// up returns the vertices from v to the root.
func (t tree) up(v int) []int {
	var list []int
	for ; v != unknown; v = t.before[v] {
		list = append(list, v)
	}
	return list
}

// around returns the closed walk from the root along the tree to v, to its neighbour w, and along the tree back to the root.
func (t tree) around(v, w int) []int {
	there, back := t.up(v), t.up(w)
	slices.Reverse(there)
	return append(there, back[:len(back)-1]...)
}

// closing returns a shortest closed walk from a root, of less than most steps, that goes along the tree of a search but for one step; none if there is none.
// If no cycle is shorter, it is a cycle: its two ways along the tree have only the root in common.
func (l edges) closing(root, most int) []int {
	t := tree{distance: unknowns(len(l)), before: unknowns(len(l))}
	t.distance[root] = 0
	reached := []int{root}
	var walk []int
	// The other end of a step is no nearer to the root, or the step has been looked at from there.
	for place := 0; place < len(reached) && 2*t.distance[reached[place]]+1 < most; place++ {
		v := reached[place]
		for _, w := range l[v] {
			switch {
			case t.distance[w] == unknown:
				t.distance[w], t.before[w] = t.distance[v]+1, v
				reached = append(reached, w)
			case w != t.before[v] && t.distance[v]+t.distance[w]+1 < most:
				walk = t.around(v, w)
				most = len(walk)
			}
		}
	}
	return walk
}

// shortestCycle returns a cycle of the least length, or none if there is none. The edges are undirected.
func (l edges) shortestCycle() []int {
	var cycle []int
	most := len(l) + 1 // no cycle has as many vertices
	for root := range l {
		if walk := l.closing(root, most); len(walk) > 0 {
			cycle, most = walk, len(walk)
		}
	}
	return cycle
}

// isCycle reports whether a list of vertices is a cycle. The edges are undirected.
func (l edges) isCycle(list []int) bool {
	seen := map[int]bool{}
	count := 1
	if len(list) == 2 {
		count = 2
	}
	for i, v := range list {
		next := list[(i+1)%len(list)]
		if seen[v] || !l.lead(v, next, count) {
			return false
		}
		seen[v] = true
	}
	return true
}

// acceptUndirected returns the edges of a graph, or its error, or ErrForm if it is not undirected.
func acceptUndirected(g api.Graph) (edges, api.Errno) {
	l, e := accept(g)
	if e != api.OK {
		return nil, e
	}
	if !l.isUndirected() {
		return nil, api.ErrForm
	}
	return l, api.OK
}

// Girth returns the least length of a cycle, and a cycle of this length.
func Girth(g api.Graph) (int, []int, api.Errno) {
	l, e := acceptUndirected(g)
	if e != api.OK {
		return 0, nil, e
	}
	cycle := l.shortestCycle()
	if len(cycle) == 0 {
		return 0, nil, api.ErrNone
	}
	return len(cycle), cycle, api.OK
}

// CheckCycle accepts a cycle.
func CheckCycle(g api.Graph, l []int) api.Errno {
	all, e := acceptUndirected(g)
	switch {
	case e != api.OK:
		return e
	case len(l) == 0:
		return api.ErrShape
	case !all.areVertices(l):
		return api.ErrMissing
	case !all.isCycle(l):
		return api.ErrProof
	}
	return api.OK
}
