package graph_test

import (
	"fmt"
	"math"
	"math/big"
	"slices"
	"testing"

	"fourfold/api"
	"fourfold/graph"
)

// The tests of this file are those of P9.8.

// poly is a polynomial with integers of any size, from the constant coefficient on.
type poly []*big.Int

// with is the product with x - root, for a root that may be multiple.
func (p poly) with(root, times int) poly {
	for range times {
		next := make(poly, len(p)+1)
		for i := range next {
			next[i] = new(big.Int)
		}
		for i, c := range p {
			next[i+1].Add(next[i+1], c)
			next[i].Sub(next[i], new(big.Int).Mul(c, big.NewInt(int64(root))))
		}
		p = next
	}
	return p
}

// none is the polynomial 1.
func none() poly { return poly{big.NewInt(1)} }

// characteristic is the characteristic polynomial of a matrix, from the traces of products (Leverrier, Faddeev).
func characteristic(m large) poly {
	p := make(poly, len(m)+1)
	p[len(m)] = big.NewInt(1)
	k := scalar(len(m), 0)
	for i := 1; i <= len(m); i++ {
		k = m.times(k)
		for j := range k {
			k[j][j].Add(k[j][j], p[len(m)-i+1])
		}
		trace := m.times(k).trace()
		p[len(m)-i] = trace.Neg(trace.Div(trace, big.NewInt(int64(i))))
	}
	return p
}

func TestPolynomial(t *testing.T) {
	n := numbers(50)
	for range 200 {
		g := n.graph(n.between(1, 10))
		got, e := graph.Polynomial(g)
		wantResult(t, fmt.Sprint("Polynomial of ", g.Edges), got, e, toInts(characteristic(largeOf(g))), api.OK)
	}
	for i, x := range []struct {
		g      api.Graph
		wanted poly
	}{
		{square(), none().with(0, 2).with(2, 1).with(-2, 1)}, {petersen(), none().with(3, 1).with(1, 5).with(-2, 4)}, {complete(7), none().with(6, 1).with(-1, 6)}, {cube(3), none().with(3, 1).with(1, 3).with(-1, 3).with(-3, 1)},
		{of(nil, nil, nil), none().with(0, 3)}, {of([]int{0, 0}), none().with(2, 1)}, {beside(square(), complete(3)), none().with(0, 2).with(2, 2).with(-2, 1).with(-1, 2)}, {of([]int{0, 1, 1}, []int{0, 0, 0}), none().with(3, 1).with(-2, 1)}, {complete(60), none().with(59, 1).with(-1, 59)},
	} {
		got, e := graph.Polynomial(x.g)
		wantResult(t, fmt.Sprint("Polynomial number ", i), got, e, toInts(x.wanted), api.OK)
	}
	got, e := graph.Polynomial(square())
	wantResult(t, "Polynomial of the square", got, e, ints(0, 0, -4, 0, 1), api.OK)
	got, e = graph.Polynomial(circle(3, 1))
	wantResult(t, "Polynomial of a directed triangle", got, e, ints(-1, 0, 0, 1), api.OK)
	got, e = graph.Polynomial(api.Graph{})
	wantError(t, "Polynomial without vertices", api.ErrNone, got, e)
	great := n.regular(api.MaxClasses/2, api.MaxDegree)
	got, e = graph.Polynomial(great)
	wantResult(t, "Polynomial of a great graph", got, e, toInts(characteristic(largeOf(great))), api.OK)
}

// isSmall reports whether a root that is an integer keeps Ramanujan's bound.
func isSmall(x, degree int) bool {
	return x == degree || x == -degree || x*x <= 4*(degree-1)
}

// A matrix with two rows of the same sum has this sum and the trace less this sum as its roots.
func TestRamanujanWithTwoVertices(t *testing.T) {
	for degree := range 51 {
		for loops := range 2*degree + 1 {
			a := max(0, loops-degree)
			m := [][]int{{a, degree - a}, {degree - (loops - a), loops - a}}
			g := made[api.Graph](t)(graph.FromMatrix(names(2), m))
			got, e := graph.Ramanujan(g)
			wantResult(t, fmt.Sprint("Ramanujan of ", m), got, e, isSmall(loops-degree, degree), api.OK)
		}
	}
}

// ofThree tells whether a regular graph with three vertices is a Ramanujan graph: besides the degree it has the roots of x^2 - s x + c.
func ofThree(m [][]int, degree int) (bool, api.Errno) {
	s := m[0][0] + m[1][1] + m[2][2] - degree
	pairs := m[0][0]*m[1][1] - m[0][1]*m[1][0] + m[0][0]*m[2][2] - m[0][2]*m[2][0] + m[1][1]*m[2][2] - m[1][2]*m[2][1]
	c := pairs - degree*s
	square := s*s - 4*c
	if square < 0 {
		return false, api.ErrForm
	}
	if root := int(math.Round(math.Sqrt(float64(square)))); root*root == square {
		return isSmall((s+root)/2, degree) && isSmall((s-root)/2, degree), api.OK
	}
	if s == 0 { // the roots are opposite, their square is -c
		return -c <= 4*(degree-1), api.OK
	}
	// The square of an irrational root is none of the bounds.
	greatest := (math.Abs(float64(s)) + math.Sqrt(float64(square))) / 2
	return greatest*greatest <= float64(4*(degree-1)), api.OK
}

func TestRamanujanWithThreeVertices(t *testing.T) {
	n := numbers(51)
	seen := map[string]int{}
	for range 6000 {
		degree := n.between(1, one(&n, 3, 12, 50))
		var m [][]int
		for range 3 {
			a := n.between(0, degree)
			b := n.between(0, degree-a)
			row := []int{a, b, degree - a - b}
			if n.between(0, 1) == 0 {
				row[0], row[2] = row[2], row[0]
			}
			m = append(m, row)
		}
		if n.between(0, 2) == 0 { // opposite roots
			m = [][]int{{0, m[0][1], degree - m[0][1]}, {m[1][0], degree - m[1][0], 0}, {m[2][0], degree - m[2][0], 0}}
		}
		g := made[api.Graph](t)(graph.FromMatrix(names(3), m))
		wanted, f := ofThree(m, degree)
		seen[fmt.Sprint(wanted, f)]++
		got, e := graph.Ramanujan(g)
		wantResult(t, fmt.Sprint("Ramanujan of ", m), got, e, wanted, f)
	}
	for _, count := range seen {
		if count < 500 || len(seen) < 3 {
			t.Errorf("results %v", seen)
		}
	}
}

// The roots of an undirected circle with steps are the sums of 2 cos(2 pi s j / n).
func TestRamanujanOfCircles(t *testing.T) {
	n := numbers(52)
	seen := map[bool]int{}
	for range 400 {
		vertices := n.between(3, 24)
		var steps []int
		for range n.between(1, 6) {
			s := n.between(1, vertices-1)
			steps = append(steps, s, -s)
		}
		degree, wanted, near := float64(len(steps)), true, false
		for j := range vertices {
			x := 0.0
			for _, s := range steps {
				x += math.Cos(2 * math.Pi * float64(s*j%vertices) / float64(vertices))
			}
			rest := x*x - 4*(degree-1)
			near = near || math.Abs(rest) < 0.000001
			wanted = wanted && (rest < 0.000001 || math.Abs(math.Abs(x)-degree) < 0.000001)
		}
		if near && len(steps) > 2 && vertices != 8 && vertices != 12 && vertices != 24 {
			continue // the sum of cosines would have to be compared exactly
		}
		seen[wanted]++
		got, e := graph.Ramanujan(circle(vertices, steps...))
		wantResult(t, fmt.Sprint("Ramanujan of the circle ", vertices, steps), got, e, wanted, api.OK)
	}
	if seen[true] < 50 || seen[false] < 50 {
		t.Errorf("results %v", seen)
	}
}

func TestKnownRamanujanGraphs(t *testing.T) {
	parts := from(24, func(v, w int) int { return oneIf(v%2 != w%2) }) // complete between two parts
	for i, x := range []struct {
		g      api.Graph
		wanted bool
		e      api.Errno
	}{
		{square(), true, api.OK}, {petersen(), true, api.OK}, {heawood(), true, api.OK}, {cube(3), true, api.OK}, {cube(4), true, api.OK}, {complete(24), true, api.OK}, {parts, true, api.OK}, {circle(23, 1, -1), true, api.OK}, {circle(24, 1, -1), true, api.OK},
		{of(nil), true, api.OK}, {of(nil, nil, nil), true, api.OK}, {of([]int{0}), true, api.OK}, {of([]int{0}, []int{1}), true, api.OK}, {of([]int{1}, []int{0}), true, api.OK}, {of([]int{0}, []int{0}), true, api.OK}, {circle(2, 1), true, api.OK},
		{of([]int{1}, []int{0}, []int{0}), true, api.OK}, {beside(complete(4), complete(4)), true, api.OK}, {of([]int{0, 0, 1}, []int{0, 1, 1}), true, api.OK}, {of([]int{0, 0, 0, 1}, []int{0, 1, 1, 1}), true, api.OK}, {circle(24, 1, -1, 12), false, api.OK}, {circle(8, 1, -1, 4), true, api.OK}, {circle(24, 1, -1, 2, -2), false, api.OK},
		{circle(3, 1), false, api.ErrForm}, {circle(4, 1), false, api.ErrForm}, {circle(24, 1), false, api.ErrForm}, {circle(3, 0, 1), false, api.ErrForm}, {beside(circle(3, 1), circle(3, 1)), false, api.ErrForm}, {beside(circle(3, 1), circle(1, 0)), false, api.ErrForm}, {circle(4, 1, 2), false, api.ErrForm},
		{api.Graph{}, false, api.ErrNone}, {of([]int{0}, nil), false, api.ErrNone}, {from(25, func(v, w int) int { return oneIf(v < w) }), false, api.ErrNone}, {from(25, func(v, w int) int { return 15 + oneIf(v < w) }), false, api.ErrNone},
		{circle(25, 1, -1), false, api.ErrLarge}, {circle(25, 1), false, api.ErrLarge}, {of(make([][]int, 25)...), false, api.ErrLarge}, {circle(61, 1), false, api.ErrLarge}, {circle(api.MaxVertices, 1), false, api.ErrLarge},
		{of(slices.Repeat([]int{0}, 50)), true, api.OK}, {of(slices.Repeat([]int{0}, 51)), false, api.ErrLarge}, {circle(3, slices.Repeat([]int{1}, 51)...), false, api.ErrLarge}, {circle(3, slices.Repeat([]int{1}, 50)...), false, api.ErrForm},
	} {
		got, e := graph.Ramanujan(x.g)
		if x.e != api.OK {
			wantError(t, fmt.Sprint("Ramanujan number ", i), x.e, got, e)
		}
		wantResult(t, fmt.Sprint("Ramanujan number ", i), got, e, x.wanted, x.e)
	}
}

func TestRamanujanOfGreatGraphs(t *testing.T) {
	n := numbers(53)
	for range 10 {
		_, e := graph.Ramanujan(n.undirectedRegular(24, 50))
		want(t, "Ramanujan of a great undirected graph", e, api.OK)
		got, e := graph.Ramanujan(n.regular(24, 50))
		wantError(t, "Ramanujan of a great graph", api.ErrForm, got, e)
	}
}
