package graph

import (
	"slices"

	"fourfold/api"
	"fourfold/integer"
)

// isGood reports whether p is a good prime.
func isGood(p int) bool {
	return p%4 == 1 && integer.IsPrime(p)
}

// generators returns the generators of p, a good prime less than MaxDegree.
func generators(p int) []api.Quat {
	const reach = 20 // its square is MaxDegree
	var list []api.Quat
	for w := 1; w < reach; w += 2 {
		for x := -reach; x <= reach; x += 2 {
			for y := -reach; y <= reach; y += 2 {
				for z := -reach; z <= reach; z += 2 {
					if w*w+x*x+y*y+z*z == p {
						list = append(list, api.Quat{W: w, X: x, Y: y, Z: z, Den: 1})
					}
				}
			}
		}
	}
	return list
}

// steps returns the matrices of the generators of p modulo q.
func steps(p, q int) []matrix {
	roots, _ := integer.Roots(-1, q, 1)
	u := roots[0]
	var list []matrix
	for _, g := range generators(p) {
		list = append(list, matrix{
			residue(g.W+u*g.X, q), residue(g.Y+u*g.Z, q),
			residue(-g.Y+u*g.Z, q), residue(g.W-u*g.X, q),
		})
	}
	return list
}

// isSquare reports whether n, which is no multiple of the odd prime q, is a square modulo q.
func isSquare(n, q int) bool {
	symbol, _ := integer.Legendre(n, q)
	return symbol == 1
}

// isTooLarge reports whether the Cayley graph of two good primes has more than MaxVertices vertices: q (q^2 - 1), or half as many. This need not be an int.
func isTooLarge(p, q int) bool {
	most := api.MaxVertices
	if isSquare(p, q) {
		most *= 2
	}
	return q*q-1 > most/q
}

// vertices returns the vertices of the Cayley graph.
func vertices(p, q int) []matrix {
	all := !isSquare(p, q)
	var list []matrix
	for m := range classes(q) {
		if all || isSquare(m.determinant(q), q) {
			list = append(list, m)
		}
	}
	return list
}

// cayley returns the Cayley graph.
func cayley(p, q int) api.Graph {
	var g api.Graph
	list := vertices(p, q)
	places := map[matrix]int{}
	for place, m := range list {
		g.Names = append(g.Names, m.name())
		places[m] = place
	}
	all := steps(p, q)
	for _, m := range list {
		var ends []int
		for _, s := range all {
			ends = append(ends, places[m.times(s, q).class(q)])
		}
		slices.Sort(ends)
		g.Edges = append(g.Edges, ends)
	}
	return g
}

// Generators returns the generators of a good prime.
func Generators(p int) ([]api.Quat, api.Errno) {
	if !isGood(p) {
		return nil, api.ErrPrime
	}
	if p >= api.MaxDegree {
		return nil, api.ErrLarge
	}
	return generators(p), api.OK
}

// Cayley returns a Cayley graph.
func Cayley(p, q int) (api.Graph, api.Errno) {
	if !isGood(p) || !isGood(q) || p == q {
		return api.Graph{}, api.ErrPrime
	}
	if p >= api.MaxDegree || isTooLarge(p, q) {
		return api.Graph{}, api.ErrLarge
	}
	return cayley(p, q), api.OK
}
