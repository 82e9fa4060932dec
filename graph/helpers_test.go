package graph_test

import (
	"fmt"
	"math"
	"math/big"
	"reflect"
	"slices"
	"strconv"
	"testing"

	"fourfold/api"
	"fourfold/graph"
)

const (
	least    = math.MinInt
	greatest = math.MaxInt
)

// want compares comparable results.
func want[T comparable](t *testing.T, what string, got, wanted T) {
	t.Helper()
	if got != wanted {
		t.Errorf("%s: %v, want %v", what, got, wanted)
	}
}

// same compares results, where a nil slice and an empty one are the same.
func same(a, b any) bool {
	return fmt.Sprintf("%T %v", a, a) == fmt.Sprintf("%T %v", b, b)
}

// wantResult compares a result and an error.
func wantResult(t *testing.T, what string, got any, e api.Errno, wanted any, f api.Errno) {
	t.Helper()
	if e != f || !same(got, wanted) {
		t.Errorf("%s: %v, error %d, want %v, error %d", what, got, e, wanted, f)
	}
}

// wantError checks that there is this error, and that every other result is its zero value.
func wantError(t *testing.T, what string, f api.Errno, results ...any) {
	t.Helper()
	last := len(results) - 1
	want(t, what, results[last].(api.Errno), f)
	for _, r := range results[:last] {
		if v := reflect.ValueOf(r); !v.IsZero() && (v.Kind() != reflect.Slice || v.Len() > 0) {
			t.Errorf("%s: %v beside the error", what, r)
		}
	}
}

// made is the result of a function that has to be OK.
func made[T any](t *testing.T) func(result T, e api.Errno) T {
	return func(result T, e api.Errno) T {
		t.Helper()
		if e != api.OK {
			t.Fatalf("no result, but error %d", e)
		}
		return result
	}
}

// all gives all results of a function as a list.
func all(results ...any) []any { return results }

// names are those of this many vertices.
func names(vertices int) []string {
	var list []string
	for v := range vertices {
		list = append(list, "v"+strconv.Itoa(v))
	}
	return list
}

// of is the graph with these neighbours.
func of(edges ...[]int) api.Graph {
	return api.Graph{Names: names(len(edges)), Edges: edges}
}

// square is the graph of the chapter's examples.
func square() api.Graph {
	return api.Graph{Names: []string{"a", "b", "c", "d"}, Edges: [][]int{{1, 3}, {0, 2}, {1, 3}, {0, 2}}}
}

// from is the graph in which the number of edges from one vertex to another one is given.
func from(vertices int, count func(v, w int) int) api.Graph {
	edges := make([][]int, vertices)
	for v := range vertices {
		for w := range vertices {
			edges[v] = append(edges[v], slices.Repeat([]int{w}, count(v, w))...)
		}
	}
	return of(edges...)
}

// oneIf is 1 where it is so, and otherwise 0.
func oneIf(so bool) int {
	if so {
		return 1
	}
	return 0
}

// matrixOf is the matrix.
func matrixOf(g api.Graph) [][]int {
	var m [][]int
	for _, list := range g.Edges {
		row := make([]int, len(g.Edges))
		for _, w := range list {
			row[w]++
		}
		m = append(m, row)
	}
	return m
}

// withBoth is the graph with the edges in the other direction, too.
func withBoth(g api.Graph) api.Graph {
	m := matrixOf(g)
	return from(len(m), func(v, w int) int { return m[v][w] + m[w][v] })
}

// complete has an edge between any two different vertices.
func complete(vertices int) api.Graph {
	return from(vertices, func(v, w int) int { return oneIf(v != w) })
}

// circle has an edge from each vertex to those that are so many steps away.
func circle(vertices int, steps ...int) api.Graph {
	edges := make([][]int, vertices)
	for v := range edges {
		for _, s := range steps {
			edges[v] = append(edges[v], ((v+s)%vertices+vertices)%vertices)
		}
		slices.Sort(edges[v])
	}
	return of(edges...)
}

// petersen is Petersen's graph: the pairs of five numbers, those without a common one being neighbours.
func petersen() api.Graph {
	var pairs [][2]int
	for i := range 5 {
		for j := range i {
			pairs = append(pairs, [2]int{i, j})
		}
	}
	return from(10, func(v, w int) int {
		a, b := pairs[v], pairs[w]
		return oneIf(a[0] != b[0] && a[0] != b[1] && a[1] != b[0] && a[1] != b[1])
	})
}

// cube has the numbers of so many binary digits; neighbours differ in one digit.
func cube(digits int) api.Graph {
	return from(1<<digits, func(v, w int) int {
		difference := v ^ w
		return oneIf(difference != 0 && difference&(difference-1) == 0)
	})
}

// beside has the vertices of two graphs, and no edges between them.
func beside(g, h api.Graph) api.Graph {
	var edges [][]int
	for _, list := range g.Edges {
		edges = append(edges, slices.Clone(list))
	}
	for _, list := range h.Edges {
		var moved []int
		for _, w := range list {
			moved = append(moved, w+len(g.Edges))
		}
		edges = append(edges, moved)
	}
	return of(edges...)
}

// numbers yields numbers that follow a rule without a pattern, the same ones each time.
type numbers uint64

func (n *numbers) next() uint64 {
	*n += 0x9e3779b97f4a7c15
	z := uint64(*n)
	z = (z ^ z>>30) * 0xbf58476d1ce4e5b9
	z = (z ^ z>>27) * 0x94d049bb133111eb
	return z ^ z>>31
}

// between is a number from a to b.
func (n *numbers) between(a, b int) int { return a + int(n.next()%uint64(b-a+1)) }

// one is an element of a list.
func one[T any](n *numbers, list ...T) T { return list[n.between(0, len(list)-1)] }

// graph is any graph, with some loops and repeated edges.
func (n *numbers) graph(vertices int) api.Graph {
	rare := n.between(1, 2*vertices+1)
	most := one(n, 1, 1, 3)
	return from(vertices, func(_, _ int) int { return oneIf(n.between(0, rare) == 0) * n.between(1, most) })
}

// undirected is an undirected graph, at times without loops and repeated edges.
func (n *numbers) undirected(vertices int) api.Graph {
	rare := n.between(1, 2*vertices+1)
	loops, most := n.between(0, 1), one(n, 1, 1, 3)
	m := make([][]int, vertices)
	for v := range m {
		m[v] = make([]int, vertices)
		for w := range v + loops {
			m[v][w] = oneIf(n.between(0, rare) == 0) * n.between(1, most)
			m[w][v] = m[v][w]
		}
	}
	return from(vertices, func(v, w int) int { return m[v][w] })
}

// sparse is an undirected graph with few cycles: a tree and some more edges.
func (n *numbers) sparse(vertices int) api.Graph {
	m := zeros(vertices, vertices)
	join := func(v, w int) {
		m[v][w]++
		if v != w {
			m[w][v]++
		}
	}
	places := n.permutation(vertices)
	for v := 1; v < vertices; v++ {
		join(places[v], places[n.between(max(0, v-2), v-1)])
	}
	for range n.between(0, 2) {
		join(n.between(0, vertices-1), n.between(0, vertices-1))
	}
	return from(vertices, func(v, w int) int { return m[v][w] })
}

// regular is a regular graph.
func (n *numbers) regular(vertices, degree int) api.Graph {
	edges := make([][]int, vertices)
	for v := range edges {
		for range degree {
			edges[v] = append(edges[v], n.between(0, vertices-1))
		}
		slices.Sort(edges[v])
	}
	return of(edges...)
}

// permutation is the numbers less than count in any order.
func (n *numbers) permutation(count int) []int {
	var list []int
	for i := range count {
		j := n.between(0, i)
		list = append(list, i)
		list[i], list[j] = list[j], list[i]
	}
	return list
}

// undirectedRegular is an undirected regular graph of an even degree, the sum of permutations and the opposite ones.
func (n *numbers) undirectedRegular(vertices, degree int) api.Graph {
	edges := make([][]int, vertices)
	for range degree / 2 {
		for v, w := range n.permutation(vertices) {
			edges[v] = append(edges[v], w)
			edges[w] = append(edges[w], v)
		}
	}
	for _, list := range edges {
		slices.Sort(list)
	}
	return of(edges...)
}

// toBig is the value of an integer.
func toBig(x api.Int) *big.Int {
	b := new(big.Int)
	for i := len(x.Words) - 1; i >= 0; i-- {
		b.Lsh(b, 32)
		b.Add(b, big.NewInt(int64(x.Words[i])))
	}
	if x.Neg {
		b.Neg(b)
	}
	return b
}

// toInt is an integer in normal form.
func toInt(b *big.Int) api.Int {
	x := api.Int{Neg: b.Sign() < 0}
	for rest := new(big.Int).Abs(b); rest.Sign() > 0; rest.Rsh(rest, 32) {
		x.Words = append(x.Words, uint32(rest.Uint64()))
	}
	return x
}

// toInts are integers in normal form.
func toInts(list []*big.Int) []api.Int {
	var ints []api.Int
	for _, b := range list {
		ints = append(ints, toInt(b))
	}
	return ints
}

// ints are small integers in normal form.
func ints(list ...int) []api.Int {
	var bigs []*big.Int
	for _, n := range list {
		bigs = append(bigs, big.NewInt(int64(n)))
	}
	return toInts(bigs)
}

// power is base to the exponent.
func power(base, exponent int) *big.Int {
	return new(big.Int).Exp(big.NewInt(int64(base)), big.NewInt(int64(exponent)), nil)
}

// large is a matrix with integers of any size.
type large [][]*big.Int

// scalar is a multiple of the unit matrix.
func scalar(rows, n int) large {
	var m large
	for i := range rows {
		var row []*big.Int
		for j := range rows {
			row = append(row, big.NewInt(int64(n*oneIf(i == j))))
		}
		m = append(m, row)
	}
	return m
}

// largeOf is the matrix of a graph.
func largeOf(g api.Graph) large {
	var m large
	for _, counts := range matrixOf(g) {
		var row []*big.Int
		for _, n := range counts {
			row = append(row, big.NewInt(int64(n)))
		}
		m = append(m, row)
	}
	return m
}

// times is the product.
func (m large) times(k large) large {
	p := scalar(len(m), 0)
	for i, row := range m {
		for j, x := range row {
			if x.Sign() == 0 {
				continue
			}
			for l, y := range k[j] {
				p[i][l].Add(p[i][l], new(big.Int).Mul(x, y))
			}
		}
	}
	return p
}

// minus is the difference with a multiple of another matrix.
func (m large) minus(by int, k large) large {
	d := scalar(len(m), 0)
	for i, row := range m {
		for j, x := range row {
			d[i][j].Sub(x, new(big.Int).Mul(big.NewInt(int64(by)), k[i][j]))
		}
	}
	return d
}

// trace is the sum of the diagonal.
func (m large) trace() *big.Int {
	total := new(big.Int)
	for i, row := range m {
		total.Add(total, row[i])
	}
	return total
}

// result is the matrix as the package has it.
func (m large) result() [][]api.Int {
	var rows [][]api.Int
	for _, row := range m {
		rows = append(rows, toInts(row))
	}
	return rows
}

// wantValid checks that a graph is valid.
func wantValid(t *testing.T, what string, g api.Graph) {
	t.Helper()
	want(t, what+" is valid", graph.Check(g), api.OK)
}
