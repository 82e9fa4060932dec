package graph

import (
	"strconv"

	"fourfold/api"
	"fourfold/brandt"
	"fourfold/integer"
)

// Neighbours returns the graph of neighbours of a class set.
func Neighbours(a api.Algebra, c api.Classes, p int) (api.Graph, api.Errno) {
	m, e := brandt.Matrix(a, c, p)
	if e != api.OK {
		return api.Graph{}, e
	}
	if !integer.IsPrime(p) {
		return api.Graph{}, api.ErrPrime
	}
	var names []string
	for v := range m {
		names = append(names, strconv.Itoa(v))
	}
	return FromMatrix(names, m)
}
