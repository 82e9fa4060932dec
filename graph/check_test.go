package graph_test

import (
	"fmt"
	"slices"
	"strings"
	"testing"

	"fourfold/api"
	"fourfold/graph"
)

// The tests of this file are those of P9.1.

// long is a name with this many bytes.
func long(bytes int) string { return strings.Repeat("x", bytes) }

func TestCheckOfValidGraphs(t *testing.T) {
	for _, g := range []api.Graph{
		{}, {Names: []string{}, Edges: [][]int{}}, of(nil), of([]int{}), of([]int{0}), of([]int{0, 0, 0}), of([]int{1}, nil), square(), petersen(), cube(4),
		{Names: []string{long(40), long(39), "\t", "\x00", "\xff\xfe", "é", "\r", "a\tb", ",", "-", "0", "01", "A", "a"}, Edges: make([][]int, 14)},
		{Names: []string{strings.Repeat("é", 20), "a"}, Edges: make([][]int, 2)},
		of(slices.Repeat([]int{0}, api.MaxDegree)), from(2, func(v, w int) int { return 200 }),
		of(make([][]int, api.MaxVertices)...), circle(api.MaxVertices, 0, 1, 2, -1),
	} {
		want(t, fmt.Sprint("Check of ", len(g.Names), " vertices"), graph.Check(g), api.OK)
	}
}

// faults are graphs with an error, each one of one cause.
func faults() map[string]struct {
	g api.Graph
	e api.Errno
} {
	last := len(square().Edges) - 1
	changed := func(change func(g *api.Graph)) api.Graph {
		g := square()
		change(&g)
		return g
	}
	named := func(name string) api.Graph {
		return changed(func(g *api.Graph) { g.Names[last] = name })
	}
	leads := func(list ...int) api.Graph {
		return changed(func(g *api.Graph) { g.Edges[last] = list })
	}
	return map[string]struct {
		g api.Graph
		e api.Errno
	}{
		"names without edges":      {api.Graph{Names: []string{"a"}}, api.ErrShape},
		"edges without names":      {api.Graph{Edges: [][]int{nil}}, api.ErrShape},
		"a name too many":          {changed(func(g *api.Graph) { g.Names = append(g.Names, "e") }), api.ErrShape},
		"a list too many":          {changed(func(g *api.Graph) { g.Edges = append(g.Edges, nil) }), api.ErrShape},
		"too many vertices":        {of(make([][]int, api.MaxVertices+1)...), api.ErrLarge},
		"no name":                  {named(""), api.ErrName},
		"a long name":              {named(long(41)), api.ErrName},
		"a long name of letters":   {named(strings.Repeat("é", 21)), api.ErrName},
		"a blank":                  {named(" "), api.ErrName},
		"a blank behind":           {named("d "), api.ErrName},
		"a blank ahead":            {named(" d"), api.ErrName},
		"a blank within":           {named("d d"), api.ErrName},
		"a blank in a long name":   {named(long(20) + " " + long(19)), api.ErrName},
		"a line feed":              {named("\n"), api.ErrName},
		"a line feed within":       {named("d\nd"), api.ErrName},
		"a blank behind no letter": {named("\xff "), api.ErrName},
		"the same name":            {named("a"), api.ErrExists},
		"the same name as c":       {named("c"), api.ErrExists},
		"too many neighbours":      {leads(slices.Repeat([]int{0}, api.MaxDegree+1)...), api.ErrLarge},
		"no such neighbour":        {leads(4), api.ErrMissing},
		"no such neighbour behind": {leads(0, 2, 4), api.ErrMissing},
		"a negative neighbour":     {leads(-1), api.ErrMissing},
		"a far neighbour":          {leads(greatest), api.ErrMissing},
		"a far negative neighbour": {leads(least), api.ErrMissing},
		"neighbours that descend":  {leads(2, 0), api.ErrOrder},
		"the last one descends":    {leads(0, 2, 2, 1), api.ErrOrder},
	}
}

func TestErrorsOfCheck(t *testing.T) {
	for what, x := range faults() {
		want(t, "Check of "+what, graph.Check(x.g), x.e)
	}
}

func TestOrderOfTheErrorsOfCheck(t *testing.T) {
	far := slices.Repeat([]int{9}, api.MaxDegree+1)
	many := make([][]int, api.MaxVertices+1)
	many[0] = far
	for i, x := range []struct {
		names []string
		edges [][]int
		e     api.Errno
	}{
		{[]string{""}, many, api.ErrShape},
		{slices.Repeat([]string{""}, api.MaxVertices+1), many, api.ErrLarge},
		{[]string{"", ""}, [][]int{far, far}, api.ErrName},
		{[]string{"a", ""}, [][]int{far, nil}, api.ErrLarge},
		{[]string{"a", ""}, [][]int{{2}, nil}, api.ErrMissing},
		{[]string{"a", ""}, [][]int{{1, 0}, nil}, api.ErrOrder},
		{[]string{"a", "a"}, [][]int{nil, far}, api.ErrExists},
		{[]string{"a", "a"}, [][]int{far, nil}, api.ErrLarge},
		{[]string{"a a", "a a"}, [][]int{nil, nil}, api.ErrName},
		{[]string{"a", "b"}, [][]int{{1, 0, 2}, nil}, api.ErrOrder},
		{[]string{"a", "b"}, [][]int{{2, 1, 0}, nil}, api.ErrMissing},
		{[]string{"a", "b"}, [][]int{{1, -1}, nil}, api.ErrMissing},
		{[]string{"a", "b"}, [][]int{{1, 0}, {2}}, api.ErrOrder},
		{[]string{"a", "b"}, [][]int{{1, 1}, {0, 1, 0}}, api.ErrOrder},
		{[]string{"a", "b", "a"}, [][]int{nil, {3}, nil}, api.ErrMissing},
		{[]string{"a", "a", "b"}, [][]int{nil, nil, {3}}, api.ErrExists},
	} {
		want(t, fmt.Sprint("Check of graph number ", i), graph.Check(api.Graph{Names: x.names, Edges: x.edges}), x.e)
	}
}

// function is a function of a graph.
type function func(g api.Graph) []any

// functions are all functions with a graph, with other arguments that have an error as often as they can.
func functions() map[string]function {
	return map[string]function{
		"Adjacency":   func(g api.Graph) []any { return all(graph.Adjacency(g)) },
		"Undirected":  func(g api.Graph) []any { return all(graph.Undirected(g)) },
		"Degree":      func(g api.Graph) []any { return all(graph.Degree(g)) },
		"Components":  func(g api.Graph) []any { return all(graph.Components(g)) },
		"Bipartite":   func(g api.Graph) []any { return all(graph.Bipartite(g)) },
		"Distances":   func(g api.Graph) []any { return all(graph.Distances(g, -1)) },
		"Diameter":    func(g api.Graph) []any { return all(graph.Diameter(g)) },
		"Girth":       func(g api.Graph) []any { return all(graph.Girth(g)) },
		"CheckCycle":  func(g api.Graph) []any { return all(graph.CheckCycle(g, nil)) },
		"Path":        func(g api.Graph) []any { return all(graph.Path(g, -1, -1)) },
		"CheckPath":   func(g api.Graph) []any { return all(graph.CheckPath(g, nil)) },
		"Walks":       func(g api.Graph) []any { return all(graph.Walks(g, -1, -1)) },
		"Closed":      func(g api.Graph) []any { return all(graph.Closed(g, -1)) },
		"Irreducible": func(g api.Graph) []any { return all(graph.Irreducible(g, -1)) },
		"Polynomial":  func(g api.Graph) []any { return all(graph.Polynomial(g)) },
		"Ramanujan":   func(g api.Graph) []any { return all(graph.Ramanujan(g)) },
		"Print":       func(g api.Graph) []any { return all(graph.Print(g)) },
	}
}

func TestErrorsOfGraphsComeFirst(t *testing.T) {
	for what, x := range faults() {
		for name, f := range functions() {
			wantError(t, name+" of "+what, x.e, f(x.g)...)
		}
	}
}

func TestLargeMatrices(t *testing.T) {
	for _, name := range []string{"Adjacency", "Closed", "Irreducible", "Polynomial"} {
		for _, vertices := range []int{api.MaxClasses + 1, 100, api.MaxVertices} {
			wantError(t, name, api.ErrLarge, functions()[name](circle(vertices, 1, 2))...)
			uneven := circle(vertices, 1)
			uneven.Edges[0] = nil
			wantError(t, name+" of a graph that is not regular", api.ErrLarge, functions()[name](uneven)...)
		}
	}
	g := circle(api.MaxClasses, 1, -1)
	wantResult(t, "Adjacency of 60 vertices", made[[][]int](t)(graph.Adjacency(g)), api.OK, matrixOf(g), api.OK)
	_, e := graph.Closed(g, 3)
	want(t, "Closed of 60 vertices", e, api.OK)
	_, e = graph.Irreducible(g, 3)
	want(t, "Irreducible of 60 vertices", e, api.OK)
	_, e = graph.Polynomial(g)
	want(t, "Polynomial of 60 vertices", e, api.OK)
}
