package graph_test

import (
	"fmt"
	"slices"
	"testing"

	"fourfold/api"
	"fourfold/graph"
)

// The tests of this file are those of P9.4 and P9.6.

// slowDistances are all distances, from row to column, found by going through one vertex more each time; -1 where there is no walk.
func slowDistances(g api.Graph) [][]int {
	const far = 1000000
	d := matrixOf(g)
	for v, row := range d {
		for w, count := range row {
			switch {
			case v == w:
				row[w] = 0
			case count > 0:
				row[w] = 1
			default:
				row[w] = far
			}
		}
	}
	for through := range d {
		for v := range d {
			for w := range d {
				d[v][w] = min(d[v][w], d[v][through]+d[through][w])
			}
		}
	}
	for _, row := range d {
		for w, n := range row {
			if n == far {
				row[w] = -1
			}
		}
	}
	return d
}

func TestDistances(t *testing.T) {
	n := numbers(20)
	together := 0
	for range 500 {
		g := n.graph(n.between(1, 12))
		d := slowDistances(g)
		longest, f := 0, api.OK
		for v, row := range d {
			got, e := graph.Distances(g, v)
			wantResult(t, fmt.Sprint("Distances of ", g.Edges, " from ", v), got, e, row, api.OK)
			longest = max(longest, slices.Max(row))
			if slices.Contains(row, -1) {
				f = api.ErrNone
			}
		}
		if f != api.OK {
			longest = 0
		}
		together += oneIf(f == api.OK)
		got, e := graph.Diameter(g)
		wantResult(t, fmt.Sprint("Diameter of ", g.Edges), got, e, longest, f)
	}
	if together < 50 || together > 400 {
		t.Errorf("%d graphs with a diameter", together)
	}
}

func TestKnownDiameters(t *testing.T) {
	for i, x := range []struct {
		g      api.Graph
		wanted int
		e      api.Errno
	}{
		{api.Graph{}, 0, api.ErrNone}, {of(nil), 0, api.OK}, {of([]int{0, 0}), 0, api.OK}, {of(nil, nil), 0, api.ErrNone}, {of([]int{1}, nil), 0, api.ErrNone}, {of(nil, []int{0}), 0, api.ErrNone}, {of([]int{1}, []int{0}), 1, api.OK},
		{square(), 2, api.OK}, {petersen(), 2, api.OK}, {cube(5), 5, api.OK}, {complete(7), 1, api.OK}, {circle(7, 1), 6, api.OK}, {circle(7, 1, -1), 3, api.OK}, {circle(8, 1, -1), 4, api.OK}, {circle(8, 2, -2), 0, api.ErrNone},
		{circle(api.MaxVertices, 1), api.MaxVertices - 1, api.OK}, {circle(api.MaxVertices, 1, -1), api.MaxVertices / 2, api.OK},
	} {
		got, e := graph.Diameter(x.g)
		wantResult(t, fmt.Sprint("Diameter of graph number ", i), got, e, x.wanted, x.e)
	}
}

// vertices that are none, of a graph with so many.
func noVertices(vertices int) []int {
	return []int{-1, vertices, vertices + 1, least, greatest}
}

func TestErrorsOfDistances(t *testing.T) {
	for _, g := range []api.Graph{{}, square(), of(nil)} {
		for _, v := range noVertices(len(g.Edges)) {
			got, e := graph.Distances(g, v)
			wantError(t, fmt.Sprint("Distances from ", v), api.ErrMissing, got, e)
		}
	}
}

// isWalk reports whether each vertex is a neighbour of the one before.
func isWalk(g api.Graph, list []int) bool {
	for i := range len(list) - 1 {
		if !slices.Contains(g.Edges[list[i]], list[i+1]) {
			return false
		}
	}
	return true
}

// firstWalk is the first walk of this length, lexicographically, found by going through all of them; none if there is none.
func firstWalk(g api.Graph, from, to, length int) []int {
	if length == 0 {
		if from == to {
			return []int{from}
		}
		return nil
	}
	for v := range g.Edges {
		if !slices.Contains(g.Edges[from], v) {
			continue
		}
		if rest := firstWalk(g, v, to, length-1); rest != nil {
			return append([]int{from}, rest...)
		}
	}
	return nil
}

func TestPath(t *testing.T) {
	n := numbers(21)
	found := 0
	for range 400 {
		g := n.graph(n.between(1, 7))
		for v := range g.Edges {
			for w := range g.Edges {
				var wanted []int
				for length := 0; length < len(g.Edges) && wanted == nil; length++ {
					wanted = firstWalk(g, v, w, length)
				}
				f := api.OK
				if wanted == nil {
					f = api.ErrNone
				}
				found += oneIf(len(wanted) > 2)
				got, e := graph.Path(g, v, w)
				wantResult(t, fmt.Sprint("Path in ", g.Edges, " from ", v, " to ", w), got, e, wanted, f)
			}
		}
	}
	if found < 500 {
		t.Errorf("only %d paths of more than one step", found)
	}
}

func TestKnownPaths(t *testing.T) {
	for i, x := range []struct {
		g        api.Graph
		from, to int
		wanted   []int
		e        api.Errno
	}{
		{square(), 0, 2, []int{0, 1, 2}, api.OK}, {square(), 2, 0, []int{2, 1, 0}, api.OK}, {square(), 3, 1, []int{3, 0, 1}, api.OK}, {square(), 3, 3, []int{3}, api.OK}, {square(), 0, 3, []int{0, 3}, api.OK},
		{of(nil), 0, 0, []int{0}, api.OK}, {of([]int{0}), 0, 0, []int{0}, api.OK}, {of([]int{1}, nil), 1, 0, nil, api.ErrNone}, {of([]int{1}, nil), 0, 1, []int{0, 1}, api.OK}, {of([]int{1}, nil), 1, 1, []int{1}, api.OK},
		{of([]int{1, 2}, []int{4}, []int{3}, nil, []int{3}), 0, 3, []int{0, 2, 3}, api.OK}, {of([]int{2, 3}, nil, []int{4}, []int{1}, []int{1}), 0, 1, []int{0, 3, 1}, api.OK},
		{of([]int{1, 2}, []int{5}, []int{3}, []int{6}, []int{6}, []int{4}, nil), 0, 6, []int{0, 2, 3, 6}, api.OK}, {of([]int{1, 2}, []int{4}, []int{3}, []int{5}, []int{5}, nil), 0, 5, []int{0, 1, 4, 5}, api.OK},
		{cube(3), 0, 7, []int{0, 1, 3, 7}, api.OK}, {cube(3), 7, 0, []int{7, 3, 1, 0}, api.OK}, {circle(6, 1, -1), 1, 4, []int{1, 0, 5, 4}, api.OK},
		{beside(square(), square()), 0, 4, nil, api.ErrNone},
	} {
		got, e := graph.Path(x.g, x.from, x.to)
		wantResult(t, fmt.Sprint("Path number ", i), got, e, x.wanted, x.e)
	}
	got, e := graph.Path(circle(api.MaxVertices, 1), 1, 0)
	want(t, "a long path", e, api.OK)
	want(t, "a long path", len(got), api.MaxVertices)
}

func TestErrorsOfPath(t *testing.T) {
	for _, g := range []api.Graph{{}, square(), of(nil, nil)} {
		for _, v := range noVertices(len(g.Edges)) {
			for _, w := range append(noVertices(len(g.Edges)), 0) {
				got, e := graph.Path(g, v, w)
				wantError(t, fmt.Sprint("Path from ", v, " to ", w), api.ErrMissing, got, e)
				got, e = graph.Path(g, w, v)
				wantError(t, fmt.Sprint("Path from ", w, " to ", v), api.ErrMissing, got, e)
			}
		}
	}
}

func TestCheckPath(t *testing.T) {
	n := numbers(22)
	accepted := 0
	for range 3000 {
		g := n.graph(n.between(1, 5))
		var list []int
		for range n.between(1, 5) {
			list = append(list, n.between(0, len(g.Edges)-1))
		}
		wanted := api.ErrProof
		if isWalk(g, list) {
			wanted = api.OK
		}
		accepted += oneIf(wanted == api.OK && len(list) > 1)
		want(t, fmt.Sprint("CheckPath of ", list, " in ", g.Edges), graph.CheckPath(g, list), wanted)
	}
	if accepted < 300 {
		t.Errorf("only %d walks", accepted)
	}
	for _, x := range []struct {
		g    api.Graph
		list []int
		e    api.Errno
	}{
		{square(), nil, api.ErrShape}, {square(), []int{}, api.ErrShape}, {api.Graph{}, nil, api.ErrShape}, {api.Graph{}, []int{0}, api.ErrMissing},
		{square(), []int{4}, api.ErrMissing}, {square(), []int{-1}, api.ErrMissing}, {square(), []int{0, 0, 4}, api.ErrMissing}, {square(), []int{0, 2, least}, api.ErrMissing}, {square(), []int{greatest, 0, 2}, api.ErrMissing},
		{square(), []int{3}, api.OK}, {square(), []int{0, 1, 0, 1, 2, 3, 0, 3}, api.OK}, {square(), []int{0, 0}, api.ErrProof}, {square(), []int{0, 1, 3}, api.ErrProof}, {square(), []int{0, 2, 3}, api.ErrProof}, {square(), []int{0, 1, 2, 3, 1}, api.ErrProof},
		{of([]int{1}, nil), []int{0, 1}, api.OK}, {of([]int{1}, nil), []int{1, 0}, api.ErrProof}, {of([]int{0}), []int{0, 0, 0}, api.OK}, {of(nil), []int{0, 0}, api.ErrProof}, {circle(10, 1), slices.Repeat([]int{0, 1, 2, 3, 4, 5, 6, 7, 8, 9}, 1000), api.OK},
	} {
		want(t, fmt.Sprint("CheckPath in ", x.g.Edges), graph.CheckPath(x.g, x.list), x.e)
	}
}
