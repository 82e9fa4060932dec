package graph_test

import (
	"fmt"
	"strconv"
	"testing"

	"fourfold/api"
	"fourfold/brandt"
	"fourfold/graph"
	"fourfold/ideal"
	"fourfold/order"
)

// The tests of this file are those of P9.10.

// classSet is a class set of an order of a level in the algebra.
func classSet(t *testing.T, a api.Algebra, level int) api.Classes {
	t.Helper()
	o := made[api.Lattice](t)(order.Maximal(a, made[api.Lattice](t)(order.Standard(a))))
	return made[api.Classes](t)(ideal.ClassSet(a, made[api.Lattice](t)(order.Eichler(a, o, level))))
}

// genus is an algebra and a level.
type genus struct {
	a     api.Algebra
	level int
}

// genera are some with few classes; the discriminants are 2, 7, 11, 23, 37, 30 and 53.
func genera() []genus {
	return []genus{{api.Algebra{A: -1, B: -1}, 1}, {api.Algebra{A: -1, B: -1}, 15}, {api.Algebra{A: -1, B: -7}, 3}, {api.Algebra{A: -1, B: -11}, 1}, {api.Algebra{A: -1, B: -11}, 2}, {api.Algebra{A: -1, B: -23}, 1}, {api.Algebra{A: -2, B: -37}, 1}, {api.Algebra{A: -3, B: -10}, 1}, {api.Algebra{A: -2, B: -53}, 1}}
}

func TestNeighbours(t *testing.T) {
	for _, g := range genera() {
		c := classSet(t, g.a, g.level)
		for p := -1; p <= api.MaxNorm+4; p++ {
			what := fmt.Sprint("Neighbours ", g, p)
			got, e := graph.Neighbours(g.a, c, p)
			m, f := brandt.Matrix(g.a, c, p)
			switch {
			case f != api.OK:
				wantError(t, what, f, got, e)
			case !isPrime(p):
				wantError(t, what, api.ErrPrime, got, e)
			default:
				want(t, what, e, api.OK)
				wantValid(t, what, got)
				wantResult(t, "the matrix of "+what, made[[][]int](t)(graph.Adjacency(got)), api.OK, m, api.OK)
				for v, name := range got.Names {
					want(t, "a name of "+what, name, strconv.Itoa(v))
				}
			}
		}
	}
}

func TestNeighboursForEleven(t *testing.T) {
	a := api.Algebra{A: -1, B: -11}
	c := classSet(t, a, 1)
	g, e := graph.Neighbours(a, c, 2)
	wanted := of([]int{0, 1, 1}, []int{0, 0, 0})
	if c.Units[0] == 6 {
		wanted = of([]int{1, 1, 1}, []int{0, 0, 1})
	}
	wanted.Names = []string{"0", "1"}
	wantResult(t, "Neighbours for 11 and 2", g, e, wanted, api.OK)
	degree, e := graph.Degree(g)
	wantResult(t, "their degree", degree, e, 3, api.OK)
	is, e := graph.Ramanujan(g)
	wantResult(t, "Ramanujan", is, e, true, api.OK)
	is, e = graph.Undirected(g)
	wantResult(t, "Undirected", is, e, false, api.OK)
	p, e := graph.Polynomial(g)
	wantResult(t, "Polynomial", p, e, ints(-6, -1, 1), api.OK)
	// At the prime of the discriminant each ideal has one neighbour.
	g, e = graph.Neighbours(a, c, 11)
	wantResult(t, "Neighbours for 11 and 11", g, e, api.Graph{Names: []string{"0", "1"}, Edges: [][]int{{0}, {1}}}, api.OK)
}

func TestNeighboursOfManyClasses(t *testing.T) {
	a := api.Algebra{A: -1, B: -1}
	c := classSet(t, a, 719)
	g := made[api.Graph](t)(graph.Neighbours(a, c, 47))
	want(t, "the number of classes", len(g.Names), api.MaxClasses)
	degree, e := graph.Degree(g)
	wantResult(t, "the degree", degree, e, 48, api.OK)
}

func TestErrorsOfNeighbours(t *testing.T) {
	a := api.Algebra{A: -1, B: -1}
	c := classSet(t, a, 15)
	bad := c
	bad.Units = append([]int{1}, c.Units[1:]...)
	for _, x := range []struct {
		a api.Algebra
		c api.Classes
		p int
		e api.Errno
	}{
		{api.Algebra{}, c, 4, api.ErrZero}, {api.Algebra{A: -1, B: 3}, c, 4, api.ErrDefinite}, {a, api.Classes{}, 4, api.ErrRange}, {a, bad, 4, api.ErrProof}, {a, bad, 51, api.ErrProof}, {a, bad, 3, api.ErrProof},
		{a, c, 0, api.ErrRange}, {a, c, -7, api.ErrRange}, {a, c, 51, api.ErrRange}, {a, c, 53, api.ErrRange}, {a, c, least, api.ErrRange}, {a, c, greatest, api.ErrRange},
		{a, c, 3, api.ErrPrime}, {a, c, 5, api.ErrPrime}, {a, c, 9, api.ErrPrime}, {a, c, 1, api.ErrPrime}, {a, c, 4, api.ErrPrime}, {a, c, 49, api.ErrPrime}, {a, c, 22, api.ErrPrime}, {a, c, 15, api.ErrPrime},
	} {
		g, e := graph.Neighbours(x.a, x.c, x.p)
		wantError(t, fmt.Sprint("Neighbours ", x.a, x.p), x.e, g, e)
	}
	for _, p := range []int{2, 7, 47} {
		_, e := graph.Neighbours(a, c, p)
		want(t, fmt.Sprint("Neighbours ", p), e, api.OK)
	}
}
