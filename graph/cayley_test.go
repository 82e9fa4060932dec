package graph_test

import (
	"fmt"
	"math/big"
	"slices"
	"testing"

	"fourfold/algebra"
	"fourfold/api"
	"fourfold/graph"
)

// The tests of this file are those of P9.9.

// isPrime reports whether n is a prime up to MaxModulus.
func isPrime(n int) bool {
	return n > 1 && n <= api.MaxModulus && big.NewInt(int64(n)).ProbablyPrime(20)
}

// isGood reports whether p is a good prime.
func isGood(p int) bool {
	return isPrime(p) && p%4 == 1
}

// goodPrimes are those from a to b.
func goodPrimes(a, b int) []int {
	var list []int
	for p := a; p <= b; p++ {
		if isGood(p) {
			list = append(list, p)
		}
	}
	return list
}

// generators are those of p, found by trying all numbers.
func generators(p int) []api.Quat {
	r := 0
	for r*r <= p {
		r++
	}
	var list []api.Quat
	for w := 1; w < r; w++ {
		for x := -r; x <= r; x++ {
			for y := -r; y <= r; y++ {
				for z := -r; z <= r; z++ {
					if w*w+x*x+y*y+z*z == p && w%2 == 1 && x%2 == 0 && y%2 == 0 && z%2 == 0 {
						list = append(list, api.Quat{W: w, X: x, Y: y, Z: z, Den: 1})
					}
				}
			}
		}
	}
	return list
}

func TestGenerators(t *testing.T) {
	for _, p := range goodPrimes(2, api.MaxDegree) {
		got, e := graph.Generators(p)
		wantResult(t, fmt.Sprint("Generators of ", p), got, e, generators(p), api.OK)
		want(t, fmt.Sprint("the number of generators of ", p), len(got), p+1)
		for _, q := range got {
			norm, e := algebra.Norm(api.Algebra{A: -1, B: -1}, q)
			wantResult(t, fmt.Sprint("the norm of ", q), norm, e, api.Frac{Num: p, Den: 1}, api.OK)
		}
	}
	whole := func(w, x, y, z int) api.Quat { return api.Quat{W: w, X: x, Y: y, Z: z, Den: 1} }
	got, e := graph.Generators(5)
	wantResult(t, "Generators of 5", got, e, []api.Quat{whole(1, -2, 0, 0), whole(1, 0, -2, 0), whole(1, 0, 0, -2), whole(1, 0, 0, 2), whole(1, 0, 2, 0), whole(1, 2, 0, 0)}, api.OK)
}

// badPrimes are no good primes.
func badPrimes() []int {
	return []int{0, 1, -1, 2, 3, 4, 7, 9, 11, 19, 21, 25, 45, 65, 85, 49, 121, 383, 401 * 5, -3, -5, -13, 999999937 - 2, 999999937 + 4, 1000000007, 1000000009, 1000000021, least, least + 1, least + 5, greatest, 1 << 32}
}

func TestErrorsOfGenerators(t *testing.T) {
	for _, p := range badPrimes() {
		got, e := graph.Generators(p)
		wantError(t, fmt.Sprint("Generators of ", p), api.ErrPrime, got, e)
	}
	for _, p := range []int{401, 409, 421, 433, 997, 10009, 999999937, 999999929} {
		want(t, fmt.Sprint(p, " is a good prime"), isGood(p), true)
		got, e := graph.Generators(p)
		wantError(t, fmt.Sprint("Generators of ", p), api.ErrLarge, got, e)
	}
}

// class is a matrix.
type class [4]int

// modulo is the residue.
func modulo(n, q int) int { return (n%q + q) % q }

// determinant is the determinant modulo q.
func (m class) determinant(q int) int { return modulo(m[0]*m[3]-m[1]*m[2], q) }

// isClass reports whether the first element other than 0 is 1, and the determinant is not 0.
func (m class) isClass(q int) bool {
	first := slices.IndexFunc(m[:], func(n int) bool { return n != 0 })
	return first >= 0 && m[first] == 1 && m.determinant(q) != 0
}

// times is the class of the product, found by trying all multiples.
func (m class) times(k class, q int) class {
	for by := 1; by < q; by++ {
		c := class{m[0]*k[0] + m[1]*k[2], m[0]*k[1] + m[1]*k[3], m[2]*k[0] + m[3]*k[2], m[2]*k[1] + m[3]*k[3]}
		for i := range c {
			c[i] = modulo(c[i]*by, q)
		}
		if c.isClass(q) {
			return c
		}
	}
	panic("no class")
}

// squares are the numbers other than 0 that are squares modulo q.
func squares(q int) map[int]bool {
	list := map[int]bool{}
	for n := 1; n < q; n++ {
		list[n*n%q] = true
	}
	return list
}

// group are the classes that are the vertices of the Cayley graph, in their order.
func group(p, q int) []class {
	all := !squares(q)[p%q]
	var list []class
	for a := range q {
		for b := range q {
			for c := range q {
				for d := range q {
					m := class{a, b, c, d}
					if m.isClass(q) && (all || squares(q)[m.determinant(q)]) {
						list = append(list, m)
					}
				}
			}
		}
	}
	return list
}

// slowCayley is the Cayley graph by its definition.
func slowCayley(p, q int) api.Graph {
	u := 1
	for (u*u+1)%q != 0 {
		u++
	}
	list := group(p, q)
	places := map[class]int{}
	var g api.Graph
	for place, m := range list {
		places[m] = place
		g.Names = append(g.Names, fmt.Sprintf("%d,%d,%d,%d", m[0], m[1], m[2], m[3]))
	}
	for _, m := range list {
		var edges []int
		for _, x := range generators(p) {
			step := class{x.W + u*x.X, x.Y + u*x.Z, -x.Y + u*x.Z, x.W - u*x.X}
			place, ok := places[m.times(step, q)]
			if !ok {
				panic("no vertex")
			}
			edges = append(edges, place)
		}
		slices.Sort(edges)
		g.Edges = append(g.Edges, edges)
	}
	return g
}

func TestCayleyByItsDefinition(t *testing.T) {
	pairs := [][2]int{{5, 13}, {17, 13}, {13, 17}}
	for _, p := range []int{13, 17, 29, 37, 41, 61, 101, 389} {
		pairs = append(pairs, [2]int{p, 5})
	}
	for _, x := range pairs {
		got, e := graph.Cayley(x[0], x[1])
		what := fmt.Sprint("Cayley ", x)
		want(t, what, e, api.OK)
		if !same(got, slowCayley(x[0], x[1])) {
			t.Errorf("%s: another graph", what)
		}
	}
}

func TestSizesOfCayleyGraphs(t *testing.T) {
	for _, x := range []struct{ p, q, vertices int }{
		{13, 5, 120}, {5, 13, 2184}, {29, 5, 60}, {397, 13, 2184}, {389, 13, 1092}, {13, 17, 2448}, {349, 17, 2448}, {353, 17, 2448}, {17, 13, 1092}, {397, 5, 120}, {389, 5, 60},
	} {
		g, e := graph.Cayley(x.p, x.q)
		what := fmt.Sprint("Cayley of ", x.p, " and ", x.q)
		want(t, what, e, api.OK)
		want(t, what, len(g.Names), x.vertices)
		wantValid(t, what, g)
		degree, e := graph.Degree(g)
		wantResult(t, "the degree of "+what, degree, e, x.p+1, api.OK)
	}
}

func TestErrorsOfCayley(t *testing.T) {
	for _, bad := range badPrimes() {
		for _, other := range append(badPrimes(), 5, 13, 401, 999999937) {
			g, e := graph.Cayley(bad, other)
			wantError(t, fmt.Sprint("Cayley of ", bad, " and ", other), api.ErrPrime, g, e)
			g, e = graph.Cayley(other, bad)
			wantError(t, fmt.Sprint("Cayley of ", other, " and ", bad), api.ErrPrime, g, e)
		}
	}
	for _, p := range []int{5, 13, 17, 401, 999999937} {
		g, e := graph.Cayley(p, p)
		wantError(t, fmt.Sprint("Cayley of ", p, " and ", p), api.ErrPrime, g, e)
	}
	for _, x := range [][2]int{{401, 5}, {409, 5}, {401, 13}, {999999937, 5}, {5, 17}, {29, 17}, {5, 29}, {13, 29}, {5, 999999937}, {13, 999999937}, {17, 999999937}, {29, 999999937}, {999999937, 999999929}, {5, 37}, {5, 2521}, {5, 1300021}, {13, 2097169}, {13, 1664501}, {5, 2642257}} {
		g, e := graph.Cayley(x[0], x[1])
		if !isGood(x[0]) || !isGood(x[1]) {
			wantError(t, fmt.Sprint("Cayley ", x), api.ErrPrime, g, e)
			continue
		}
		wantError(t, fmt.Sprint("Cayley ", x), api.ErrLarge, g, e)
	}
	for _, q := range goodPrimes(18, 3000) {
		g, e := graph.Cayley(5, q)
		wantError(t, fmt.Sprint("Cayley of 5 and ", q), api.ErrLarge, g, e)
	}
}
