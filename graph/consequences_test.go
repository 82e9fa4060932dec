package graph_test

import (
	"fmt"
	"math/big"
	"slices"
	"testing"

	"fourfold/api"
	"fourfold/brandt"
	"fourfold/graph"
	"fourfold/order"
)

// The tests of this file are those of P9.12 to P9.14.

func TestUndirectedDistances(t *testing.T) {
	n := numbers(70)
	for range 100 {
		g := n.undirected(n.between(1, 20))
		for v := range g.Edges {
			there := made[[]int](t)(graph.Distances(g, v))
			for w := range g.Edges {
				back := made[[]int](t)(graph.Distances(g, w))
				want(t, fmt.Sprint("a distance in ", g.Edges), there[w], back[v])
			}
		}
	}
}

func TestColouringsAndClosedWalks(t *testing.T) {
	n := numbers(71)
	coloured := 0
	for range 300 {
		g := one(&n, n.undirected(n.between(1, 15)), n.sparse(n.between(1, 15)))
		odd := false
		for length := 1; length <= len(g.Edges); length += 2 {
			odd = odd || toBig(made[api.Int](t)(graph.Closed(g, length))).Sign() != 0
		}
		_, e := graph.Bipartite(g)
		want(t, fmt.Sprint("a colouring of ", g.Edges), e == api.OK, !odd)
		coloured += oneIf(!odd)
	}
	if coloured < 50 || coloured > 250 {
		t.Errorf("%d graphs with a colouring", coloured)
	}
}

func TestDistancesPathsAndWalks(t *testing.T) {
	n := numbers(72)
	for range 100 {
		g := n.graph(n.between(1, 9))
		v, w := n.between(0, len(g.Edges)-1), n.between(0, len(g.Edges)-1)
		what := fmt.Sprint("from ", v, " to ", w, " in ", g.Edges)
		distance := made[[]int](t)(graph.Distances(g, v))[w]
		path, e := graph.Path(g, v, w)
		if distance < 0 {
			wantError(t, "Path "+what, api.ErrNone, path, e)
			distance = len(g.Edges)
		} else {
			want(t, "Path "+what, len(path)-1, distance)
			want(t, "CheckPath "+what, graph.CheckPath(g, path), api.OK)
			walks := made[[]api.Int](t)(graph.Walks(g, v, distance))
			want(t, "the walks "+what, toBig(walks[w]).Sign(), 1)
		}
		for length := range distance {
			walks := made[[]api.Int](t)(graph.Walks(g, v, length))
			want(t, "the shorter walks "+what, toBig(walks[w]).Sign(), 0)
		}
	}
}

func TestRowSumsOfIrreducibleMatrices(t *testing.T) {
	n := numbers(73)
	for range 30 {
		degree := n.between(0, one(&n, 3, 10, 400))
		g := n.regular(n.between(1, 12), degree)
		for length := 1; length <= 20; length++ {
			wanted := new(big.Int).Mul(big.NewInt(int64(degree)), power(degree-1, length-1))
			for _, row := range made[[][]api.Int](t)(graph.Irreducible(g, length)) {
				total := new(big.Int)
				for _, x := range row {
					total.Add(total, toBig(x))
				}
				want(t, fmt.Sprint("a row sum of ", g.Edges, " for ", length), total.Cmp(wanted), 0)
			}
		}
	}
}

// The sums s(k) of the powers of the roots of a polynomial with the coefficients c (Newton): s(k) + c(n-1) s(k-1) + .. + c(n-k+1) s(1) + k c(n-k) = 0.
func TestClosedWalksAndRoots(t *testing.T) {
	n := numbers(74)
	for range 100 {
		g := n.graph(n.between(1, 12))
		p := made[[]api.Int](t)(graph.Polynomial(g))
		degree := len(p) - 1
		sums := []*big.Int{nil}
		for k := 1; k <= 30; k++ {
			s := new(big.Int)
			for i := 1; i <= min(k, degree); i++ {
				by := big.NewInt(int64(k))
				if i < k {
					by = sums[k-i]
				}
				s.Sub(s, new(big.Int).Mul(toBig(p[degree-i]), by))
			}
			sums = append(sums, s)
			got, e := graph.Closed(g, k)
			wantResult(t, fmt.Sprint("Closed in ", g.Edges, " of length ", k), got, e, toInt(s), api.OK)
		}
	}
}

// smallCayley are some Cayley graphs.
func smallCayley() [][2]int {
	return [][2]int{{13, 5}, {17, 5}, {29, 5}, {37, 5}, {41, 5}, {397, 5}, {5, 13}, {17, 13}, {29, 13}, {13, 17}}
}

func TestCayleyGraphsAreRegularAndUndirected(t *testing.T) {
	for _, x := range smallCayley() {
		p, q := x[0], x[1]
		what := fmt.Sprint("Cayley ", x)
		g := made[api.Graph](t)(graph.Cayley(p, q))
		degree, e := graph.Degree(g)
		wantResult(t, what, degree, e, p+1, api.OK)
		is, e := graph.Undirected(g)
		wantResult(t, what, is, e, true, api.OK)
		colours, e := graph.Bipartite(g)
		if squares(q)[p%q] {
			want(t, what, len(g.Names), q*(q*q-1)/2)
			continue
		}
		want(t, what, len(g.Names), q*(q*q-1))
		want(t, "a colouring of "+what, e, api.OK)
		want(t, "a colouring of "+what, isColouring(g, colours), true)
	}
}

// Classes that are multiplied by one of them from the left change places, and their edges with them.
func TestCayleyGraphsLookAlikeFromEachVertex(t *testing.T) {
	n := numbers(75)
	for _, x := range smallCayley() {
		p, q := x[0], x[1]
		g := made[api.Graph](t)(graph.Cayley(p, q))
		list := group(p, q)
		places := map[class]int{}
		for place, m := range list {
			places[m] = place
		}
		for range 3 {
			by := one(&n, list...)
			for v, m := range list {
				var moved []int
				for _, w := range g.Edges[v] {
					moved = append(moved, places[by.times(list[w], q)])
				}
				slices.Sort(moved)
				if !slices.Equal(moved, g.Edges[places[by.times(m, q)]]) {
					t.Fatalf("Cayley %v does not look alike from %v and %v", x, m, by.times(m, q))
				}
			}
		}
	}
}

func TestDistancesInCayleyGraphs(t *testing.T) {
	for _, x := range [][2]int{{13, 5}, {29, 5}, {5, 13}} {
		g := made[api.Graph](t)(graph.Cayley(x[0], x[1]))
		diameter := made[int](t)(graph.Diameter(g))
		for v := 0; v < len(g.Names); v += 1 + len(g.Names)/50 {
			want(t, fmt.Sprint("the greatest distance in Cayley ", x), slices.Max(made[[]int](t)(graph.Distances(g, v))), diameter)
		}
	}
}

// difference is the difference of two matrices, as the package has it.
func difference(m, k [][]int) [][]api.Int {
	var rows [][]api.Int
	for i, row := range m {
		var list []int
		for j, x := range row {
			if k != nil {
				x -= k[i][j]
			}
			list = append(list, x)
		}
		rows = append(rows, ints(list...))
	}
	return rows
}

func TestIrreducibleMatricesOfClassSets(t *testing.T) {
	for _, x := range genera() {
		c := classSet(t, x.a, x.level)
		for _, p := range []int{2, 3, 5, 7, 11, 13, 43, 47} {
			if c.Disc*c.Level%p == 0 {
				continue
			}
			what := fmt.Sprint("Neighbours ", x, p)
			g := made[api.Graph](t)(graph.Neighbours(x.a, c, p))
			degree, e := graph.Degree(g)
			wantResult(t, what, degree, e, p+1, api.OK)
			var before [][]int // B of p^(n-2)
			last := made[[][]int](t)(brandt.Matrix(x.a, c, 1))
			for n, q := 1, p; q <= api.MaxNorm; n, q = n+1, q*p {
				m := made[[][]int](t)(brandt.Matrix(x.a, c, q))
				got, e := graph.Irreducible(g, n)
				wantResult(t, fmt.Sprint("Irreducible of ", what, " for ", n), got, e, difference(m, before), api.OK)
				before, last = last, m
			}
		}
	}
}

func TestClassSetsOfMaximalOrders(t *testing.T) {
	checked := 0
	for _, a := range []api.Algebra{{A: -1, B: -1}, {A: -1, B: -11}, {A: -1, B: -23}, {A: -2, B: -37}, {A: -3, B: -10}, {A: -2, B: -53}, {A: -1, B: -131}, {A: -1, B: -163}, {A: -1, B: -199}, {A: -2, B: -101}} {
		c := classSet(t, a, 1)
		want(t, "a maximal order", made[bool](t)(order.IsMaximal(a, c.Order)), true)
		for _, p := range []int{2, 3, 5, 7, 13, 31, 47} {
			if c.Disc%p == 0 {
				continue
			}
			checked++
			got, e := graph.Ramanujan(made[api.Graph](t)(graph.Neighbours(a, c, p)))
			wantResult(t, fmt.Sprint("Ramanujan of ", a, " and ", p, ", with ", len(c.Ideals), " classes"), got, e, true, api.OK)
		}
	}
	if checked < 50 {
		t.Errorf("only %d graphs", checked)
	}
}
