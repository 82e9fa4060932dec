package graph_test

import (
	"fmt"
	"math/big"
	"slices"
	"testing"

	"fourfold/api"
	"fourfold/graph"
)

// The tests of this file are those of P9.7.

// slowWalks are the numbers of walks from a vertex, with integers of any size.
func slowWalks(g api.Graph, from, length int) []*big.Int {
	counts := make([]*big.Int, len(g.Edges))
	for v := range counts {
		counts[v] = big.NewInt(int64(oneIf(v == from)))
	}
	for range length {
		next := make([]*big.Int, len(g.Edges))
		for v := range next {
			next[v] = new(big.Int)
		}
		for v, list := range g.Edges {
			for i, w := range list {
				if i > 0 && w == list[i-1] {
					continue
				}
				many := big.NewInt(int64(len(list[i:])))
				if last := slices.IndexFunc(list[i:], func(u int) bool { return u != w }); last >= 0 {
					many = big.NewInt(int64(last))
				}
				next[w].Add(next[w], many.Mul(many, counts[v]))
			}
		}
		counts = next
	}
	return counts
}

// allWalks are the numbers of walks from a vertex, found by going through all of them.
func allWalks(g api.Graph, from, length int) []int {
	counts := make([]int, len(g.Edges))
	if length == 0 {
		counts[from] = 1
		return counts
	}
	for _, v := range g.Edges[from] {
		for w, count := range allWalks(g, v, length-1) {
			counts[w] += count
		}
	}
	return counts
}

func TestWalks(t *testing.T) {
	n := numbers(40)
	for range 200 {
		g := n.graph(n.between(1, 5))
		for length := range 5 {
			v := n.between(0, len(g.Edges)-1)
			got, e := graph.Walks(g, v, length)
			wantResult(t, fmt.Sprint("Walks in ", g.Edges, " from ", v, " of length ", length), got, e, ints(allWalks(g, v, length)...), api.OK)
		}
	}
	for range 60 {
		g := n.graph(n.between(1, 20))
		v, length := n.between(0, len(g.Edges)-1), n.between(0, 100)
		got, e := graph.Walks(g, v, length)
		wantResult(t, fmt.Sprint("Walks in ", g.Edges, " from ", v, " of length ", length), got, e, toInts(slowWalks(g, v, length)), api.OK)
	}
	for length, wanted := range [][]int{{1, 0, 0, 0}, {0, 1, 0, 1}, {2, 0, 2, 0}, {0, 4, 0, 4}} {
		got, e := graph.Walks(square(), 0, length)
		wantResult(t, fmt.Sprint("Walks in the square of length ", length), got, e, ints(wanted...), api.OK)
	}
}

// fan has vertices that all lead to the first ones only, as often as they can, and first ones that lead to all, as far as they can.
func fan(vertices int) api.Graph {
	edges := make([][]int, vertices)
	for v := range edges {
		edges[v] = slices.Repeat([]int{v % 7}, api.MaxDegree)
		if v < 7 {
			edges[v] = nil
			for w := range api.MaxDegree {
				edges[v] = append(edges[v], (v+7*w)%vertices)
			}
			slices.Sort(edges[v])
		}
	}
	return of(edges...)
}

func TestTheGreatestNumbersOfWalks(t *testing.T) {
	loops := of(slices.Repeat([]int{0}, api.MaxDegree))
	for length := range 101 {
		got, e := graph.Walks(loops, 0, length)
		wantResult(t, fmt.Sprint("Walks along loops ", length), got, e, toInts([]*big.Int{power(api.MaxDegree, length)}), api.OK)
		closed, e := graph.Closed(loops, length)
		wantResult(t, fmt.Sprint("Closed along loops ", length), closed, e, toInt(power(api.MaxDegree, length)), api.OK)
	}
	for _, length := range []int{1, 2, 7, 99, 100} {
		g := fan(api.MaxVertices)
		got, e := graph.Walks(g, 3, length)
		wantResult(t, fmt.Sprint("Walks in a fan ", length), got, e, toInts(slowWalks(g, 3, length)), api.OK)
	}
	g := fan(2100)
	got := made[[]api.Int](t)(graph.Walks(g, 2000, 100))
	total := new(big.Int)
	for _, x := range got {
		total.Add(total, toBig(x))
	}
	want(t, "all walks", total.Cmp(power(api.MaxDegree, 100)), 0)
}

func TestErrorsOfWalks(t *testing.T) {
	for _, g := range []api.Graph{{}, square()} {
		for _, v := range noVertices(len(g.Edges)) {
			for _, length := range []int{0, -1, 101} {
				got, e := graph.Walks(g, v, length)
				wantError(t, fmt.Sprint("Walks from ", v), api.ErrMissing, got, e)
			}
		}
		for _, length := range []int{-1, 101, least, greatest} {
			if len(g.Edges) > 0 {
				got, e := graph.Walks(g, 0, length)
				wantError(t, fmt.Sprint("Walks of length ", length), api.ErrRange, got, e)
			}
			closed, e := graph.Closed(g, length)
			wantError(t, fmt.Sprint("Closed of length ", length), api.ErrRange, closed, e)
		}
	}
	_, e := graph.Walks(square(), 0, 100)
	want(t, "Walks of length 100", e, api.OK)
	_, e = graph.Walks(circle(api.MaxVertices, 1), 0, 0)
	want(t, "Walks in many vertices", e, api.OK)
}

func TestClosed(t *testing.T) {
	n := numbers(41)
	for range 100 {
		g := n.graph(n.between(0, 7))
		p := scalar(len(g.Edges), 1)
		for length := range 20 {
			got, e := graph.Closed(g, length)
			wantResult(t, fmt.Sprint("Closed in ", g.Edges, " of length ", length), got, e, toInt(p.trace()), api.OK)
			p = p.times(largeOf(g))
		}
	}
	for length, wanted := range map[int]int{0: 4, 1: 0, 2: 8, 3: 0, 4: 32} {
		got, e := graph.Closed(square(), length)
		wantResult(t, fmt.Sprint("Closed in the square of length ", length), got, e, ints(wanted)[0], api.OK)
	}
	got, e := graph.Closed(of([]int{0}, nil), 1)
	wantResult(t, "a loop is a closed walk", got, e, ints(1)[0], api.OK)
	for _, length := range []int{0, 1, 100} {
		got, e = graph.Closed(api.Graph{}, length)
		wantResult(t, "Closed without vertices", got, e, api.Int{}, api.OK)
	}
	g := n.regular(api.MaxClasses, api.MaxDegree)
	five := largeOf(g).times(largeOf(g)).times(largeOf(g)).times(largeOf(g)).times(largeOf(g))
	twenty := five.times(five).times(five.times(five))
	hundred := twenty.times(twenty).times(twenty.times(twenty)).times(twenty)
	got, e = graph.Closed(g, 100)
	wantResult(t, "Closed in a great graph", got, e, toInt(hundred.trace()), api.OK)
}

// slowIrreducible is an irreducible matrix by its definition.
func slowIrreducible(g api.Graph, degree, n int) large {
	m := largeOf(g)
	list := []large{scalar(len(m), 1), m, m.times(m).minus(degree, scalar(len(m), 1))}
	for k := 3; k <= n; k++ {
		list = append(list, m.times(list[k-1]).minus(degree-1, list[k-2]))
	}
	return list[n]
}

func TestIrreducible(t *testing.T) {
	n := numbers(42)
	negative := 0
	for range 150 {
		degree := n.between(0, one(&n, 2, 7, 40))
		g := n.regular(n.between(1, 7), degree)
		length := n.between(0, 20)
		wanted := slowIrreducible(g, degree, length).result()
		for _, row := range wanted {
			negative += oneIf(slices.ContainsFunc(row, func(x api.Int) bool { return x.Neg }))
		}
		got, e := graph.Irreducible(g, length)
		wantResult(t, fmt.Sprint("Irreducible of ", g.Edges, " for ", length), got, e, wanted, api.OK)
	}
	if negative < 20 {
		t.Errorf("only %d negative rows", negative)
	}
	for length, wanted := range [][][]int{
		{{1, 0, 0, 0}, {0, 1, 0, 0}, {0, 0, 1, 0}, {0, 0, 0, 1}}, {{0, 1, 0, 1}, {1, 0, 1, 0}, {0, 1, 0, 1}, {1, 0, 1, 0}},
		{{0, 0, 2, 0}, {0, 0, 0, 2}, {2, 0, 0, 0}, {0, 2, 0, 0}}, {{0, 1, 0, 1}, {1, 0, 1, 0}, {0, 1, 0, 1}, {1, 0, 1, 0}}, {{2, 0, 0, 0}, {0, 2, 0, 0}, {0, 0, 2, 0}, {0, 0, 0, 2}},
	} {
		var rows [][]api.Int
		for _, row := range wanted {
			rows = append(rows, ints(row...))
		}
		got, e := graph.Irreducible(square(), length)
		wantResult(t, fmt.Sprint("Irreducible of the square for ", length), got, e, rows, api.OK)
	}
	for _, g := range []api.Graph{n.regular(api.MaxClasses, api.MaxDegree), of(slices.Repeat([]int{0}, 400)), from(2, func(v, w int) int { return 400 * oneIf(v != w) })} {
		got, e := graph.Irreducible(g, 20)
		wantResult(t, "Irreducible of a great graph", got, e, slowIrreducible(g, 400, 20).result(), api.OK)
	}
}

func TestErrorsOfIrreducible(t *testing.T) {
	for _, n := range []int{-1, 21, 0, least, greatest} {
		for _, g := range []api.Graph{{}, of([]int{0}, nil), of([]int{1, 1}, []int{0})} {
			got, e := graph.Irreducible(g, n)
			wantError(t, fmt.Sprint("Irreducible of ", g.Edges), api.ErrNone, got, e)
		}
		if n != 0 {
			got, e := graph.Irreducible(square(), n)
			wantError(t, fmt.Sprint("Irreducible for ", n), api.ErrRange, got, e)
		}
	}
}

// ways are the numbers of walks from a vertex that never go back at once, found by going through all of them.
func ways(g api.Graph, walk []int, length int, counts []int) {
	last := walk[len(walk)-1]
	if length == 0 {
		counts[last]++
		return
	}
	for _, v := range g.Edges[last] {
		if len(walk) == 1 || v != walk[len(walk)-2] {
			ways(g, append(walk, v), length-1, counts)
		}
	}
}

func TestWalksThatNeverGoBack(t *testing.T) {
	for _, g := range []api.Graph{square(), petersen(), complete(5), cube(3), heawood(), circle(9, 1, -1), circle(9, 1, -1, 3, -3), beside(complete(4), cube(3)), of(nil, nil), of([]int{1}, []int{0})} {
		for length := range 6 {
			var wanted [][]api.Int
			for v := range g.Edges {
				counts := make([]int, len(g.Edges))
				ways(g, []int{v}, length, counts)
				wanted = append(wanted, ints(counts...))
			}
			got, e := graph.Irreducible(g, length)
			wantResult(t, fmt.Sprint("Irreducible of ", g.Edges, " for ", length), got, e, wanted, api.OK)
		}
	}
}
