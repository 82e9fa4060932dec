package graph_test

import (
	"fmt"
	"slices"
	"testing"

	"fourfold/api"
	"fourfold/graph"
)

// The tests of this file are those of P9.2.

func TestMatricesOfGraphs(t *testing.T) {
	n := numbers(1)
	for range 300 {
		g := n.graph(n.between(0, 9))
		what := fmt.Sprint("the matrix of ", g.Edges)
		m, e := graph.Adjacency(g)
		wantResult(t, what, m, e, matrixOf(g), api.OK)
		back, e := graph.FromMatrix(g.Names, m)
		wantResult(t, "FromMatrix of "+what, back, e, g, api.OK)
	}
	g, e := graph.FromMatrix([]string{"a", "b", "c"}, [][]int{{0, 2, 1}, {0, 0, 0}, {1, 0, 3}})
	wantResult(t, "FromMatrix", g, e, api.Graph{Names: []string{"a", "b", "c"}, Edges: [][]int{{1, 1, 2}, nil, {0, 2, 2, 2}}}, api.OK)
	g, e = graph.FromMatrix(nil, nil)
	wantResult(t, "FromMatrix of no vertices", g, e, api.Graph{}, api.OK)
	m, e := graph.Adjacency(api.Graph{})
	wantResult(t, "Adjacency without vertices", m, e, [][]int{}, api.OK)
}

// zeros is a matrix of zeros.
func zeros(rows, columns int) [][]int {
	var m [][]int
	for range rows {
		m = append(m, make([]int, columns))
	}
	return m
}

func TestLimitsOfFromMatrix(t *testing.T) {
	g, e := graph.FromMatrix(names(1), [][]int{{api.MaxDegree}})
	wantResult(t, "the greatest element", g, e, of(slices.Repeat([]int{0}, api.MaxDegree)), api.OK)
	g, e = graph.FromMatrix(names(3), [][]int{{1, api.MaxDegree - 1, 0}, {0, 0, api.MaxDegree}, {api.MaxDegree, 0, 0}})
	want(t, "the greatest row", e, api.OK)
	want(t, "the greatest row", len(g.Edges[0]), api.MaxDegree)
	m := zeros(api.MaxVertices, api.MaxVertices)
	m[7][2499] = 3
	g, e = graph.FromMatrix(names(api.MaxVertices), m)
	want(t, "the greatest matrix", e, api.OK)
	want(t, "the greatest matrix", len(g.Edges), api.MaxVertices)
	want(t, "its row 7", fmt.Sprint(g.Edges[7]), "[2499 2499 2499]")
	g, e = graph.FromMatrix(names(api.MaxVertices+1), zeros(api.MaxVertices+1, api.MaxVertices+1))
	wantError(t, "a matrix that is too large", api.ErrLarge, g, e)
}

func TestErrorsOfFromMatrix(t *testing.T) {
	full := func(rows int) [][]int {
		m := zeros(rows, rows)
		for _, row := range m {
			for i := range row {
				row[i] = api.MaxDegree
			}
		}
		return m
	}
	short := full(3)
	short[2] = short[2][:2]
	longer := full(3)
	longer[2] = append(longer[2], 1)
	bad := full(3)
	bad[0][0] = -1
	bad[2] = nil
	for i, x := range []struct {
		names []string
		m     [][]int
		e     api.Errno
	}{
		{nil, zeros(1, 1), api.ErrShape}, {names(1), nil, api.ErrShape}, {names(2), zeros(3, 3), api.ErrShape}, {names(3), zeros(2, 2), api.ErrShape},
		{names(3), zeros(3, 2), api.ErrShape}, {names(2), zeros(2, 3), api.ErrShape}, {names(1), zeros(1, 0), api.ErrShape}, {names(3), short, api.ErrShape}, {names(3), longer, api.ErrShape}, {names(3), bad, api.ErrShape}, {names(2), zeros(3, 2), api.ErrShape}, {names(3), zeros(2, 3), api.ErrShape}, {names(1), [][]int{{-1}, {401}}, api.ErrShape}, {names(2), [][]int{{0, 401}}, api.ErrShape},
		{names(1), [][]int{{-1}}, api.ErrRange}, {names(1), [][]int{{401}}, api.ErrRange}, {names(1), [][]int{{least}}, api.ErrRange}, {names(1), [][]int{{greatest}}, api.ErrRange},
		{[]string{"", ""}, [][]int{{400, 400}, {0, -1}}, api.ErrRange}, {[]string{"a", "a"}, [][]int{{0, 0}, {0, 401}}, api.ErrRange},
		{names(2), [][]int{{400, 1}, {0, 0}}, api.ErrLarge}, {names(2), [][]int{{1, 400}, {0, 0}}, api.ErrLarge}, {names(2), [][]int{{0, 0}, {200, 201}}, api.ErrLarge}, {names(300), full(300), api.ErrLarge},
		{[]string{"", "b"}, [][]int{{400, 1}, {0, 0}}, api.ErrName}, {[]string{"a", ""}, [][]int{{400, 1}, {0, 0}}, api.ErrLarge}, {[]string{"a", ""}, [][]int{{0, 1}, {400, 400}}, api.ErrName},
		{[]string{"a", "a"}, [][]int{{0, 1}, {400, 400}}, api.ErrExists}, {[]string{"a", "a"}, [][]int{{300, 101}, {0, 0}}, api.ErrLarge}, {[]string{"a", "a b"}, [][]int{{0, 1}, {1, 0}}, api.ErrName},
	} {
		g, e := graph.FromMatrix(x.names, x.m)
		wantError(t, fmt.Sprint("FromMatrix number ", i), x.e, g, e)
	}
}

func TestUndirected(t *testing.T) {
	n := numbers(2)
	directed := 0
	for range 500 {
		g := n.graph(n.between(0, 5))
		if n.between(0, 2) == 0 {
			g = n.undirected(n.between(0, 9))
		}
		m, symmetric := matrixOf(g), true
		for v, row := range m {
			for w, count := range row {
				symmetric = symmetric && count == m[w][v]
			}
		}
		directed += oneIf(!symmetric)
		got, e := graph.Undirected(g)
		wantResult(t, fmt.Sprint("Undirected of ", g.Edges), got, e, symmetric, api.OK)
	}
	if directed < 100 || directed > 400 {
		t.Errorf("%d directed graphs", directed)
	}
	for _, x := range []struct {
		g      api.Graph
		wanted bool
	}{
		{api.Graph{}, true}, {of(nil), true}, {of([]int{0}), true}, {of([]int{1}, nil), false}, {of([]int{1, 1}, []int{0}), false}, {of([]int{1, 1}, []int{0, 0}), true}, {of([]int{1}, []int{0, 0}), false}, {square(), true}, {circle(3, 1), false}, {of([]int{1}, []int{2}, []int{1}), false},
	} {
		got, e := graph.Undirected(x.g)
		wantResult(t, fmt.Sprint("Undirected of ", x.g.Edges), got, e, x.wanted, api.OK)
	}
}

func TestDegree(t *testing.T) {
	n := numbers(3)
	for range 100 {
		degree := n.between(0, 9)
		g := n.regular(n.between(1, 9), degree)
		got, e := graph.Degree(g)
		wantResult(t, fmt.Sprint("Degree of ", g.Edges), got, e, degree, api.OK)
		v := n.between(0, len(g.Edges)-1)
		g.Edges[v] = slices.Insert(g.Edges[v], 0, 0)
		got, e = graph.Degree(g)
		if len(g.Edges) > 1 {
			wantError(t, fmt.Sprint("Degree of ", g.Edges), api.ErrNone, got, e)
		} else {
			wantResult(t, fmt.Sprint("Degree of ", g.Edges), got, e, degree+1, api.OK)
		}
	}
	for degree, g := range map[int]api.Graph{0: of(nil, nil), 1: of([]int{0}), 2: square(), 3: petersen(), 400: of(slices.Repeat([]int{0}, 400)), 4: circle(2500, 1, 2, 3, 4)} {
		got, e := graph.Degree(g)
		wantResult(t, fmt.Sprint("Degree of ", len(g.Edges), " vertices"), got, e, degree, api.OK)
	}
	for _, g := range []api.Graph{{}, of(nil, []int{0}), of([]int{1, 1}, []int{0}), of([]int{1}, []int{0}, []int{0, 1})} {
		got, e := graph.Degree(g)
		wantError(t, fmt.Sprint("Degree of ", g.Edges), api.ErrNone, got, e)
	}
}
