package graph

import (
	"iter"
	"slices"
	"strconv"
	"strings"

	"fourfold/integer"
)

// matrix has the numbers A, B, C and D of a matrix (A, B; C, D) modulo a prime q. They are residues.
type matrix [4]int

// residue returns the residue of n modulo q.
func residue(n, q int) int {
	return (n%q + q) % q
}

// determinant returns the determinant.
func (m matrix) determinant(q int) int {
	return residue(m[0]*m[3]-m[1]*m[2], q)
}

// times returns the product.
func (m matrix) times(n matrix, q int) matrix {
	return matrix{
		(m[0]*n[0] + m[1]*n[2]) % q, (m[0]*n[1] + m[1]*n[3]) % q,
		(m[2]*n[0] + m[3]*n[2]) % q, (m[2]*n[1] + m[3]*n[3]) % q,
	}
}

// class returns the class of m, whose determinant is not 0.
func (m matrix) class(q int) matrix {
	first := slices.IndexFunc(m[:], func(n int) bool { return n != 0 })
	by, _ := integer.Inverse(m[first], q)
	for i, n := range m {
		m[i] = n * by % q
	}
	return m
}

// name returns the name of a vertex.
func (m matrix) name() string {
	var numbers []string
	for _, n := range m {
		numbers = append(numbers, strconv.Itoa(n))
	}
	return strings.Join(numbers, ",")
}

// classes yields all classes, ascending.
func classes(q int) iter.Seq[matrix] {
	return func(yield func(matrix) bool) {
		for a := range 2 {
			for b := range q {
				for c := range q {
					for d := range q {
						m := matrix{a, b, c, d}
						// If A is 0, B is not, or the determinant would be 0.
						if (a == 1 || b == 1) && m.determinant(q) != 0 && !yield(m) {
							return
						}
					}
				}
			}
		}
	}
}
