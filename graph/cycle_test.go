package graph_test

import (
	"fmt"
	"slices"
	"testing"

	"fourfold/api"
	"fourfold/graph"
)

// The tests of this file are those of P9.5.

// isCycle reports whether a list is a cycle, by the definition.
func isCycle(m [][]int, list []int) bool {
	n := len(list)
	for i, v := range list {
		if slices.Contains(list[:i], v) {
			return false
		}
	}
	switch n {
	case 1:
		return m[list[0]][list[0]] > 0
	case 2:
		return m[list[0]][list[1]] > 1
	}
	for i := range n - 1 {
		if m[list[i]][list[i+1]] == 0 {
			return false
		}
	}
	return m[list[n-1]][list[0]] > 0
}

// hasCycle reports whether there is a cycle of this length that begins with a list, found by trying all lists.
func hasCycle(m [][]int, list []int, length int) bool {
	if len(list) == length {
		return isCycle(m, list)
	}
	for v := range m {
		if !slices.Contains(list, v) && (len(list) == 0 || m[list[len(list)-1]][v] > 0) && hasCycle(m, append(list, v), length) {
			return true
		}
	}
	return false
}

// wantGirth checks a result of Girth: the length, and that the list is a cycle of this length.
func wantGirth(t *testing.T, g api.Graph, wanted int) {
	t.Helper()
	what := fmt.Sprint("Girth of ", g.Edges)
	if len(what) > 500 {
		what = what[:500]
	}
	length, cycle, e := graph.Girth(g)
	if wanted == 0 {
		wantError(t, what, api.ErrNone, length, cycle, e)
		return
	}
	want(t, what, e, api.OK)
	want(t, what, length, wanted)
	want(t, what+": the length of the cycle", len(cycle), wanted)
	if len(cycle) > 0 {
		want(t, fmt.Sprint(what, ": the cycle ", cycle), isCycle(matrixOf(g), cycle), true)
		want(t, fmt.Sprint(what, ": CheckCycle of ", cycle), graph.CheckCycle(g, cycle), api.OK)
	}
}

func TestGirth(t *testing.T) {
	n := numbers(30)
	lengths := map[int]int{}
	for range 4000 {
		g := n.undirected(n.between(1, 8))
		if n.between(0, 1) == 0 {
			g = n.sparse(n.between(1, 8))
		}
		m := matrixOf(g)
		wanted := 0
		for length := len(m); length > 0; length-- {
			if hasCycle(m, nil, length) {
				wanted = length
			}
		}
		lengths[wanted]++
		wantGirth(t, g, wanted)
	}
	for length := range 6 {
		if lengths[length] < 20 {
			t.Errorf("%d graphs of girth %d", lengths[length], length)
		}
	}
}

// heawood is the smallest graph of degree 3 and girth 6: the points and the lines of a plane with seven points.
func heawood() api.Graph {
	return withBoth(from(14, func(v, w int) int {
		return oneIf(v < 7 && w >= 7 && slices.Contains([]int{0, 1, 3}, (w-v+7)%7))
	}))
}

func TestKnownGirths(t *testing.T) {
	tree := from(15, func(v, w int) int { return oneIf(v > 0 && w == (v-1)/2 || w > 0 && v == (w-1)/2) })
	for _, x := range []struct {
		g      api.Graph
		wanted int
	}{
		{api.Graph{}, 0}, {of(nil), 0}, {of(nil, nil), 0}, {of([]int{0}), 1}, {of([]int{1}, []int{0}), 0}, {of([]int{1, 1}, []int{0, 0}), 2}, {of([]int{1, 1, 1}, []int{0, 0, 0}), 2}, {of([]int{1, 1}, []int{0, 0, 1}), 1}, {of([]int{1}, []int{0, 1}), 1},
		{tree, 0}, {square(), 4}, {complete(3), 3}, {complete(9), 3}, {petersen(), 5}, {heawood(), 6}, {cube(3), 4}, {cube(5), 4}, {circle(17, 1, -1), 17}, {circle(18, 1, -1), 18}, {circle(17, 2, -2), 17}, {circle(20, 5, -5), 4}, {circle(6, 3), 0}, {circle(8, 1, -1, 4), 4}, {circle(30, 1, -1, 7, -7), 4}, {circle(2499, 1, -1), 2499},
		{beside(circle(9, 1, -1), circle(5, 1, -1)), 5}, {beside(circle(5, 1, -1), circle(9, 1, -1)), 5}, {beside(tree, circle(4, 1, -1)), 4}, {beside(circle(6, 1, -1), beside(of([]int{1, 1}, []int{0, 0}), tree)), 2}, {beside(complete(4), of([]int{0})), 1}, {beside(tree, tree), 0},
	} {
		wantGirth(t, x.g, x.wanted)
	}
}

// The first cycle that a search meets is not the shortest one: on a way from each vertex to the triangle the search meets a longer walk, which is no cycle.
func TestCyclesAtTheEndOfAWay(t *testing.T) {
	for length := 1; length <= 7; length++ {
		for way := range 6 {
			vertices := way + length
			m := zeros(vertices, vertices)
			join := func(v, w int) {
				m[v][w]++
				if v != w {
					m[w][v]++
				}
			}
			for v := range vertices - 1 {
				join(v, v+1)
			}
			join(vertices-1, way)
			if length == 2 {
				m[way][way+1], m[way+1][way] = 2, 2
			}
			wantGirth(t, from(vertices, func(v, w int) int { return m[v][w] }), length)
		}
	}
}

func TestErrorsOfCycles(t *testing.T) {
	for _, g := range []api.Graph{of([]int{1}, nil), circle(3, 1), of([]int{0, 1}, nil), of([]int{1, 1}, []int{0}), of([]int{1}, []int{0, 0})} {
		length, cycle, e := graph.Girth(g)
		wantError(t, fmt.Sprint("Girth of ", g.Edges), api.ErrForm, length, cycle, e)
		for _, list := range [][]int{nil, {7}, {0}, {0, 1}, {0, 1, 2}} {
			want(t, fmt.Sprint("CheckCycle in ", g.Edges), graph.CheckCycle(g, list), api.ErrForm)
		}
	}
}

func TestCheckCycle(t *testing.T) {
	n := numbers(31)
	accepted := map[int]int{}
	for range 20000 {
		g := one(&n, n.undirected(n.between(1, 6)), n.sparse(n.between(1, 7)))
		list := n.permutation(len(g.Edges))[:n.between(1, len(g.Edges))]
		if g.Edges[0] != nil && n.between(0, 2) == 0 { // a cycle, turned
			if _, cycle, e := graph.Girth(g); e == api.OK {
				turn := n.between(0, len(cycle)-1)
				list = append(slices.Clone(cycle[turn:]), cycle[:turn]...)
			}
		}
		if n.between(0, 5) == 0 {
			list = append(list, n.between(0, len(g.Edges)-1))
		}
		wanted := api.ErrProof
		if isCycle(matrixOf(g), list) {
			wanted = api.OK
			accepted[len(list)]++
		}
		want(t, fmt.Sprint("CheckCycle of ", list, " in ", g.Edges), graph.CheckCycle(g, list), wanted)
	}
	for length := 1; length <= 5; length++ {
		if accepted[length] < 20 {
			t.Errorf("only %d cycles of length %d", accepted[length], length)
		}
	}
	for _, x := range []struct {
		g    api.Graph
		list []int
		e    api.Errno
	}{
		{api.Graph{}, nil, api.ErrShape}, {square(), nil, api.ErrShape}, {square(), []int{}, api.ErrShape},
		{api.Graph{}, []int{0}, api.ErrMissing}, {square(), []int{4}, api.ErrMissing}, {square(), []int{-1}, api.ErrMissing}, {square(), []int{0, 0, 4}, api.ErrMissing}, {square(), []int{0, 1, 2, 3, least}, api.ErrMissing}, {square(), []int{greatest, 1, 2, 3}, api.ErrMissing},
		{square(), []int{0, 1, 2, 3}, api.OK}, {square(), []int{2, 1, 0, 3}, api.OK}, {square(), []int{0, 1, 2}, api.ErrProof}, {square(), []int{0, 2, 1, 3}, api.ErrProof}, {square(), []int{0}, api.ErrProof}, {square(), []int{0, 1}, api.ErrProof}, {square(), []int{0, 1, 2, 3, 0}, api.ErrProof}, {square(), []int{0, 1, 2, 3, 0, 1, 2, 3}, api.ErrProof}, {square(), []int{1, 0, 1, 2}, api.ErrProof},
		{of([]int{0}), []int{0}, api.OK}, {of([]int{0}), []int{0, 0}, api.ErrProof}, {of([]int{0, 0, 0}), []int{0, 0}, api.ErrProof}, {of([]int{0, 0}), []int{0, 0, 0}, api.ErrProof},
		{of([]int{1, 1}, []int{0, 0}), []int{0, 1}, api.OK}, {of([]int{1, 1}, []int{0, 0}), []int{1, 0}, api.OK}, {of([]int{1}, []int{0}), []int{0, 1}, api.ErrProof}, {of([]int{0, 1}, []int{0, 1}), []int{0, 1}, api.ErrProof}, {of([]int{0, 1}, []int{0, 1}), []int{1}, api.OK}, {of([]int{0, 1}, []int{0}), []int{0, 1}, api.ErrProof},
		{of([]int{1, 1, 2}, []int{0, 0, 2}, []int{0, 1}), []int{0, 2}, api.ErrProof}, {of([]int{1, 1, 2}, []int{0, 0, 2}, []int{0, 1}), []int{0, 2, 1}, api.OK}, {complete(5), []int{4, 2, 0, 1, 3}, api.OK}, {complete(5), []int{4, 2, 0}, api.OK}, {complete(5), []int{4, 2}, api.ErrProof},
	} {
		want(t, fmt.Sprint("CheckCycle of ", x.list, " in ", x.g.Edges), graph.CheckCycle(x.g, x.list), x.e)
	}
	var all []int
	for v := range api.MaxVertices {
		all = append(all, v)
	}
	want(t, "a long cycle", graph.CheckCycle(circle(api.MaxVertices, 1, -1), all), api.OK)
	want(t, "a long list", graph.CheckCycle(circle(api.MaxVertices, 1, -1), append(all, all...)), api.ErrProof)
}
