package graph_test

import (
	"fmt"
	"reflect"
	"slices"
	"testing"

	"fourfold/api"
	"fourfold/graph"
)

// The tests of this file are those of R1 to R4, R7 and R8: zero values beside errors, no panics, no shared memory, the same results again, nil as good as empty.

// arguments are what a function of the package is called with.
type arguments struct {
	g       api.Graph
	names   []string
	m       [][]int
	list    []int
	v, w, n int
	a       api.Algebra
	c       api.Classes
	p, q    int
	s       string
}

// calls are all functions of the package.
func calls() map[string]func(x arguments) []any {
	return map[string]func(x arguments) []any{
		"Check":       func(x arguments) []any { return all(graph.Check(x.g)) },
		"FromMatrix":  func(x arguments) []any { return all(graph.FromMatrix(x.names, x.m)) },
		"Adjacency":   func(x arguments) []any { return all(graph.Adjacency(x.g)) },
		"Undirected":  func(x arguments) []any { return all(graph.Undirected(x.g)) },
		"Degree":      func(x arguments) []any { return all(graph.Degree(x.g)) },
		"Components":  func(x arguments) []any { return all(graph.Components(x.g)) },
		"Bipartite":   func(x arguments) []any { return all(graph.Bipartite(x.g)) },
		"Distances":   func(x arguments) []any { return all(graph.Distances(x.g, x.v)) },
		"Diameter":    func(x arguments) []any { return all(graph.Diameter(x.g)) },
		"Girth":       func(x arguments) []any { return all(graph.Girth(x.g)) },
		"CheckCycle":  func(x arguments) []any { return all(graph.CheckCycle(x.g, x.list)) },
		"Path":        func(x arguments) []any { return all(graph.Path(x.g, x.v, x.w)) },
		"CheckPath":   func(x arguments) []any { return all(graph.CheckPath(x.g, x.list)) },
		"Walks":       func(x arguments) []any { return all(graph.Walks(x.g, x.v, x.n)) },
		"Closed":      func(x arguments) []any { return all(graph.Closed(x.g, x.n)) },
		"Irreducible": func(x arguments) []any { return all(graph.Irreducible(x.g, x.n)) },
		"Polynomial":  func(x arguments) []any { return all(graph.Polynomial(x.g)) },
		"Ramanujan":   func(x arguments) []any { return all(graph.Ramanujan(x.g)) },
		"Generators":  func(x arguments) []any { return all(graph.Generators(x.p)) },
		"Cayley":      func(x arguments) []any { return all(graph.Cayley(x.p, x.q)) },
		"Neighbours":  func(x arguments) []any { return all(graph.Neighbours(x.a, x.c, x.p)) },
		"Print":       func(x arguments) []any { return all(graph.Print(x.g)) },
		"Parse":       func(x arguments) []any { return all(graph.Parse(x.s)) },
	}
}

// strange is a number that is often at the end of some range.
func (n *numbers) strange() int {
	return one(n, 0, 1, -1, 2, 3, 5, 13, 20, 21, 50, 51, 60, 61, 100, 101, 397, 400, 401, 2500, 999999937, 1000000007, least, least+1, greatest, 1<<32)
}

// strangeGraph is a graph in which something is often wrong.
func (n *numbers) strangeGraph() api.Graph {
	vertices := n.between(1, 7)
	g := one(n, n.graph(vertices), n.undirected(vertices), n.regular(vertices, n.between(0, 4)), n.undirectedRegular(vertices, 2*n.between(0, 2)))
	v := n.between(0, vertices-1)
	switch n.between(0, 24) {
	case 0:
		g.Names[v] = one(n, "", " ", "a\n", long(41), "a b")
	case 1:
		g.Names[v] = one(n, g.Names...)
	case 2:
		g.Edges[v] = append(g.Edges[v], n.strange())
	case 3:
		slices.Reverse(g.Edges[v])
	case 4:
		g.Edges = g.Edges[:vertices-1]
	case 5:
		g.Names = nil
	case 6:
		g = api.Graph{}
	}
	return g
}

// strangeArguments are arguments, many of them right ones.
func (n *numbers) strangeArguments(a api.Algebra, c api.Classes) arguments {
	g := n.strangeGraph()
	x := arguments{g: g, names: slices.Clone(g.Names), a: a, c: c, n: n.between(0, 20), p: one(n, 5, 13, 17), q: one(n, 5, 13)}
	most := max(0, len(g.Edges)-1)
	x.v, x.w = n.between(0, most), n.between(0, most)
	x.list = n.permutation(most + 1)[:n.between(0, most+1)]
	for range x.names {
		var row []int
		for range x.names {
			row = append(row, n.between(0, 2))
		}
		x.m = append(x.m, row)
	}
	x.s = textOf(n.graph(n.between(0, 4)))
	n.spoil(&x)
	return x
}

// spoil makes one of the arguments strange, or none.
func (n *numbers) spoil(x *arguments) {
	switch n.between(0, 20) {
	case 0:
		x.v = n.strange()
	case 1:
		x.w = n.strange()
	case 2:
		x.n = n.strange()
	case 3:
		x.list = append(x.list, n.strange())
	case 4:
		x.list = append(x.list, x.list...)
	case 5:
		x.p = n.strange()
	case 6:
		x.p = n.between(0, 50)
	case 7:
		x.q = n.strange()
	case 8:
		x.a.A = n.strange()
	case 9:
		x.c.Units = append([]int{n.strange()}, x.c.Units[1:]...)
	case 10:
		x.s += one(n, "\n", " ", "x", "x 1 0\n")
	case 11:
		if len(x.m) > 0 {
			x.m[0] = x.m[0][1:]
		}
	case 12:
		if len(x.m) > 0 {
			x.m[0][0] = n.strange()
		}
	case 13:
		x.names = append(x.names, "x")
	}
}

// stretch is the memory of a slice, up to its capacity.
type stretch struct{ from, to uintptr }

// stretches are those of all slices in v.
func stretches(v reflect.Value) []stretch {
	var list []stretch
	switch v.Kind() {
	case reflect.Interface:
		return stretches(v.Elem())
	case reflect.Struct:
		for i := range v.NumField() {
			list = append(list, stretches(v.Field(i))...)
		}
	case reflect.Slice:
		if v.Cap() > 0 {
			list = append(list, stretch{v.Pointer(), v.Pointer() + uintptr(v.Cap())*v.Type().Elem().Size()})
		}
		for i := range v.Len() {
			list = append(list, stretches(v.Index(i))...)
		}
	}
	return list
}

// wantApart checks that no two slices share memory.
func wantApart(t *testing.T, what string, results []any, x arguments) {
	t.Helper()
	var list []stretch
	for _, r := range results {
		list = append(list, stretches(reflect.ValueOf(r))...)
	}
	own := len(list)
	list = append(list, stretches(reflect.ValueOf(x))...)
	slices.SortFunc(list[:own], func(a, b stretch) int { return int(a.from) - int(b.from) })
	for i, a := range list[:own] {
		if i > 0 && a.from < list[i-1].to {
			t.Fatalf("%s: shared memory within the result", what)
		}
		for _, b := range list[own:] {
			if a.from < b.to && b.from < a.to {
				t.Fatalf("%s: memory shared with an argument", what)
			}
		}
	}
}

func TestStrangeArguments(t *testing.T) {
	n := numbers(80)
	a := api.Algebra{A: -1, B: -11}
	right := map[string]int{}
	for range 600 {
		seed := n
		x := n.strangeArguments(a, classSet(t, a, 1))
		for name, f := range calls() {
			if name == "Cayley" && n.between(0, 9) > 0 {
				continue
			}
			results := f(x)
			e := results[len(results)-1].(api.Errno)
			if e != api.OK {
				wantError(t, fmt.Sprint(name, " ", x), e, results...)
			} else {
				right[name]++
			}
			wantApart(t, name, results, x)
			if again := f(x); !reflect.DeepEqual(results, again) {
				t.Fatalf("%s: %v, and then %v", name, results, again)
			}
		}
		if fresh := seed; !reflect.DeepEqual(x, fresh.strangeArguments(a, classSet(t, a, 1))) {
			t.Fatalf("an argument has been changed: %v", x)
		}
	}
	for name := range calls() {
		if right[name] < 20 {
			t.Errorf("%s has had only %d results", name, right[name])
		}
	}
}

func TestGraphsInOtherMemory(t *testing.T) {
	n := numbers(81)
	for range 200 {
		g := n.graph(n.between(1, 9))
		m := matrixOf(g)
		made[api.Graph](t)(graph.FromMatrix(g.Names, m))
		h := made[api.Graph](t)(graph.FromMatrix(g.Names, m))
		h.Names[0] = "changed"
		for _, list := range h.Edges {
			for i := range list {
				list[i] = 99
			}
		}
		want(t, "the names after a change of the result", g.Names[0], "v0")
		if !same(m, matrixOf(g)) {
			t.Errorf("the matrix has been changed")
		}
	}
	q := made[[]api.Quat](t)(graph.Generators(5))
	q[0] = api.Quat{}
	want(t, "the first generator", made[[]api.Quat](t)(graph.Generators(5))[0], api.Quat{W: 1, X: -2, Den: 1})
}

func TestNilAndEmpty(t *testing.T) {
	none := arguments{g: api.Graph{Names: []string{"a", "b"}, Edges: [][]int{nil, {0}}}}
	empty := arguments{g: api.Graph{Names: []string{"a", "b"}, Edges: [][]int{{}, {0}}}, names: []string{}, m: [][]int{}, list: []int{}}
	without := arguments{g: api.Graph{Names: []string{}, Edges: [][]int{}}}
	for name, f := range calls() {
		for _, x := range [][2]arguments{{none, empty}, {{}, without}} {
			if a, b := fmt.Sprint(f(x[0])...), fmt.Sprint(f(x[1])...); a != b {
				t.Errorf("%s: %s, but %s for nil", name, b, a)
			}
		}
	}
}
