package graph_test

import (
	"fmt"
	"slices"
	"testing"

	"fourfold/api"
	"fourfold/graph"
)

// The tests of this file are those of P9.3.

// slowComponents are the components, found by giving the ends of each edge the least of their numbers until nothing changes.
func slowComponents(g api.Graph) []int {
	var first []int // the first vertex of the component
	for v := range g.Edges {
		first = append(first, v)
	}
	for changed := true; changed; {
		changed = false
		for v, list := range g.Edges {
			for _, w := range list {
				if first[v] != first[w] {
					first[v], first[w] = min(first[v], first[w]), min(first[v], first[w])
					changed = true
				}
			}
		}
	}
	var list, numbers []int
	for _, v := range first {
		if !slices.Contains(list, v) {
			list = append(list, v)
		}
		numbers = append(numbers, slices.Index(list, v))
	}
	return numbers
}

func TestComponents(t *testing.T) {
	n := numbers(10)
	for range 500 {
		g := n.graph(n.between(0, 12))
		got, e := graph.Components(g)
		wantResult(t, fmt.Sprint("Components of ", g.Edges), got, e, slowComponents(g), api.OK)
	}
	for _, x := range []struct {
		g      api.Graph
		wanted []int
	}{
		{api.Graph{}, nil}, {of(nil), []int{0}}, {of(nil, nil, nil), []int{0, 1, 2}}, {square(), []int{0, 0, 0, 0}},
		{of(nil, nil, []int{0}), []int{0, 1, 0}}, {of([]int{2}, nil, nil), []int{0, 1, 0}}, {of(nil, []int{3}, nil, nil), []int{0, 1, 2, 1}},
		{of(nil, nil, []int{0, 1}), []int{0, 0, 0}}, {beside(circle(3, 1), circle(2, 1)), []int{0, 0, 0, 1, 1}}, {of([]int{3}, []int{2}, []int{1}, []int{0}), []int{0, 1, 1, 0}},
	} {
		got, e := graph.Components(x.g)
		wantResult(t, fmt.Sprint("Components of ", x.g.Edges), got, e, x.wanted, api.OK)
	}
	line := circle(api.MaxVertices, 1)
	line.Edges[api.MaxVertices-1] = nil
	got, e := graph.Components(line)
	wantResult(t, "Components of a long line", got, e, make([]int, api.MaxVertices), api.OK)
}

// colouringOf is the first colouring, lexicographically, found by trying all; none if there is none. In it the first vertex of each component has the colour 0.
func colouringOf(g api.Graph) []int {
	for colours := range 1 << len(g.Edges) {
		var list []int
		for v := range g.Edges {
			list = append(list, colours>>(len(g.Edges)-1-v)&1)
		}
		if isColouring(g, list) {
			return list
		}
	}
	return nil
}

// isColouring reports whether no edge leads to the same colour.
func isColouring(g api.Graph, colours []int) bool {
	for v, list := range g.Edges {
		if slices.ContainsFunc(list, func(w int) bool { return colours[v] == colours[w] }) {
			return false
		}
	}
	return true
}

func TestBipartite(t *testing.T) {
	n := numbers(11)
	coloured := 0
	for range 1000 {
		g := n.graph(n.between(1, 9))
		if n.between(0, 1) == 0 { // the edges between the same colours are left out
			colours := n.next()
			m := matrixOf(g)
			g = from(len(m), func(v, w int) int { return m[v][w] * oneIf((colours>>v^colours>>w)&1 == 1) })
		}
		wanted, f := colouringOf(g), api.OK
		if wanted == nil {
			f = api.ErrNone
		}
		coloured += oneIf(f == api.OK)
		got, e := graph.Bipartite(g)
		wantResult(t, fmt.Sprint("Bipartite of ", g.Edges), got, e, wanted, f)
	}
	if coloured < 300 || coloured > 900 {
		t.Errorf("%d graphs with a colouring", coloured)
	}
	for _, x := range []struct {
		g      api.Graph
		wanted []int
		e      api.Errno
	}{
		{api.Graph{}, nil, api.OK}, {of(nil), []int{0}, api.OK}, {of([]int{0}), nil, api.ErrNone}, {square(), []int{0, 1, 0, 1}, api.OK}, {of(nil, nil), []int{0, 0}, api.OK},
		{of([]int{1, 1}, nil), []int{0, 1}, api.OK}, {of(nil, []int{0}), []int{0, 1}, api.OK}, {circle(3, 1), nil, api.ErrNone}, {circle(4, 1), []int{0, 1, 0, 1}, api.OK}, {petersen(), nil, api.ErrNone},
		{cube(3), []int{0, 1, 1, 0, 1, 0, 0, 1}, api.OK}, {beside(circle(2, 1), circle(5, 1, -1)), nil, api.ErrNone}, {beside(circle(2, 1), circle(4, 1)), []int{0, 1, 0, 1, 0, 1}, api.OK},
		{of([]int{2}, []int{2}, nil), []int{0, 0, 1}, api.OK}, {of(nil, nil, []int{0, 1}), []int{0, 0, 1}, api.OK}, {of([]int{1, 2}, []int{2}, nil), nil, api.ErrNone},
	} {
		got, e := graph.Bipartite(x.g)
		wantResult(t, fmt.Sprint("Bipartite of ", x.g.Edges), got, e, x.wanted, x.e)
	}
	got, e := graph.Bipartite(circle(2499, 1))
	wantError(t, "Bipartite of a long odd circle", api.ErrNone, got, e)
	got, e = graph.Bipartite(circle(2500, 1))
	want(t, "Bipartite of a long even circle", e, api.OK)
	want(t, "Bipartite of a long even circle", isColouring(circle(2500, 1), got), true)
}
