package graph

import (
	"slices"

	"fourfold/api"
)

// distances returns the distances from a vertex, and unknown for a vertex that is not reached.
func (l edges) distances(from int) []int {
	list := unknowns(len(l))
	list[from] = 0
	reached := []int{from}
	for place := 0; place < len(reached) && len(reached) < len(l); place++ {
		v := reached[place]
		for _, w := range l[v] {
			if list[w] == unknown {
				list[w] = list[v] + 1
				reached = append(reached, w)
			}
		}
	}
	return list
}

// path returns the walk of the least length that is the first one lexicographically, if there is a walk.
func (l edges) path(from, to int) ([]int, bool) {
	rest := l.reversed().distances(to)
	if rest[from] == unknown {
		return nil, false
	}
	walk := []int{from}
	for v := from; v != to; {
		next := slices.IndexFunc(l[v], func(w int) bool { return rest[w] == rest[v]-1 })
		v = l[v][next]
		walk = append(walk, v)
	}
	return walk, true
}

// isWalk reports whether each vertex of a list is a neighbour of the one ahead of it.
func (l edges) isWalk(list []int) bool {
	for i, v := range list[1:] {
		if !l.lead(list[i], v, 1) {
			return false
		}
	}
	return true
}

// Distances returns the distances from a vertex, and -1 for a vertex that is not reached.
func Distances(g api.Graph, from int) ([]int, api.Errno) {
	l, e := accept(g)
	if e != api.OK {
		return nil, e
	}
	if !l.isVertex(from) {
		return nil, api.ErrMissing
	}
	return l.distances(from), api.OK
}

// Diameter returns the greatest distance.
func Diameter(g api.Graph) (int, api.Errno) {
	l, e := accept(g)
	if e != api.OK {
		return 0, e
	}
	if len(l) == 0 {
		return 0, api.ErrNone
	}
	greatest := 0
	for v := range l {
		list := l.distances(v)
		if slices.Contains(list, unknown) {
			return 0, api.ErrNone
		}
		greatest = max(greatest, slices.Max(list))
	}
	return greatest, api.OK
}

// Path returns the first shortest walk.
func Path(g api.Graph, from, to int) ([]int, api.Errno) {
	l, e := accept(g)
	if e != api.OK {
		return nil, e
	}
	if !l.isVertex(from) || !l.isVertex(to) {
		return nil, api.ErrMissing
	}
	walk, ok := l.path(from, to)
	if !ok {
		return nil, api.ErrNone
	}
	return walk, api.OK
}

// CheckPath accepts a walk.
func CheckPath(g api.Graph, l []int) api.Errno {
	all, e := accept(g)
	switch {
	case e != api.OK:
		return e
	case len(l) == 0:
		return api.ErrShape
	case !all.areVertices(l):
		return api.ErrMissing
	case !all.isWalk(l):
		return api.ErrProof
	}
	return api.OK
}
