package graph

import (
	"slices"

	"fourfold/api"
)

// unknown is put in for each vertex to which a search has not come yet.
const unknown = -1

// unknowns returns a list of them.
func unknowns(vertices int) []int {
	return slices.Repeat([]int{unknown}, vertices)
}

// bothWays returns the edges with those in the other direction.
func (l edges) bothWays() edges {
	both := l.reversed()
	for v, list := range l {
		both[v] = append(both[v], list...)
	}
	return both
}

// components returns the component of each vertex.
func (l edges) components() []int {
	both := l.bothWays()
	numbers := unknowns(len(l))
	count := 0
	var enter func(v int)
	enter = func(v int) {
		numbers[v] = count
		for _, w := range both[v] {
			if numbers[w] == unknown {
				enter(w)
			}
		}
	}
	for v := range l {
		if numbers[v] == unknown {
			enter(v)
			count++
		}
	}
	return numbers
}

// colouring returns the colouring, if there is one.
func (l edges) colouring() ([]int, bool) {
	both := l.bothWays()
	colours := unknowns(len(l))
	var enter func(v, colour int) bool
	enter = func(v, colour int) bool {
		if colours[v] != unknown {
			return colours[v] == colour
		}
		colours[v] = colour
		return !slices.ContainsFunc(both[v], func(w int) bool { return !enter(w, 1-colour) })
	}
	for v := range l {
		if colours[v] == unknown && !enter(v, 0) {
			return nil, false
		}
	}
	return colours, true
}

// Components returns the component of each vertex.
func Components(g api.Graph) ([]int, api.Errno) {
	l, e := accept(g)
	if e != api.OK {
		return nil, e
	}
	return l.components(), api.OK
}

// Bipartite returns the colouring in which the first vertex of each component has the colour 0.
func Bipartite(g api.Graph) ([]int, api.Errno) {
	l, e := accept(g)
	if e != api.OK {
		return nil, e
	}
	colours, ok := l.colouring()
	if !ok {
		return nil, api.ErrNone
	}
	return colours, api.OK
}
