package order

import (
	"slices"

	"fourfold/api"
	"fourfold/integer"
)

// product returns the number whose double, divided by the squares of their denominators, is the trace of x times the conjugate of y. The numerators are those of an accepted order: so it is about 10^18 at most.
func product(a api.Algebra, x, y numbers) int {
	return x[0]*y[0] - a.A*x[1]*y[1] - a.B*x[2]*y[2] + a.A*a.B*x[3]*y[3]
}

// gram returns the matrix of the traces of x times the conjugate of y, for x and y of the basis.
func (r ring) gram() [4]numbers {
	var g [4]numbers
	for i, x := range r.basis() {
		for j, y := range r.basis() {
			g[i][j] = 2 * product(r.algebra, x, y) / (r.lattice.Den * r.lattice.Den)
		}
	}
	return g
}

// Gram returns the matrix of the traces of x times the conjugate of y.
func Gram(a api.Algebra, l api.Lattice) ([][]int, api.Errno) {
	r, e := accept(a, l)
	if e != api.OK {
		return nil, e
	}
	var rows [][]int
	for _, row := range r.gram() {
		for _, n := range row {
			if max(n, -n) > api.MaxDisc {
				return nil, api.ErrLarge
			}
		}
		rows = append(rows, slices.Clone(row[:]))
	}
	return rows, api.OK
}

// Discriminant returns the discriminant.
func Discriminant(a api.Algebra, l api.Lattice) (int, api.Errno) {
	r, e := accept(a, l)
	return r.disc, e
}

// residues are the traces of a basis, and the coefficients of the norms of its combinations, modulo m.
type residues struct {
	m      int
	traces numbers
	norms  [4]numbers // at [i][j] that of c[i] c[j], for i <= j
}

// modulo returns the residues of the basis modulo m.
func (r ring) modulo(m int) residues {
	gram, basis := r.gram(), r.basis()
	s := residues{m: m}
	for i := range gram {
		s.traces[i] = 2 * basis[i][0] / r.lattice.Den % m
		s.norms[i][i] = gram[i][i] / 2 % m
		for j := i + 1; j < len(gram); j++ {
			s.norms[i][j] = gram[i][j] % m
		}
	}
	return s
}

// trace returns the residue of the trace of the combination c, whose numbers are not negative and less than m or equal to 1.
func (s residues) trace(c numbers) int {
	sum := 0
	for i, n := range c {
		sum += n * s.traces[i]
	}
	return sum % s.m
}

// norm returns a number congruent to the norm of the combination c.
func (s residues) norm(c numbers) int {
	sum := 0
	for i := range c {
		for j := i; j < len(c); j++ {
			sum += c[i] * c[j] * s.norms[i][j]
		}
	}
	return sum % s.m
}

// roots returns the different roots modulo the prime p of the polynomial x^2 - trace x + norm.
func roots(trace, norm, p int) []int {
	var list []int
	if p <= api.MaxOver {
		for x := range p {
			if (x*x-trace*x+norm)%p == 0 {
				list = append(list, x)
			}
		}
		return list
	}
	squares, _ := integer.Roots(trace*trace-4*norm, p, 1)
	for _, s := range squares {
		list = append(list, (trace+s)%p*((p+1)/2)%p)
	}
	return list
}

// isListed reports whether p is a prime at which larger orders are listed.
func isListed(p int) bool {
	return p <= api.MaxOver && integer.IsPrime(p)
}

// Symbol returns the symbol at p.
func Symbol(a api.Algebra, l api.Lattice, p int) (int, api.Errno) {
	r, e := accept(a, l)
	if e != api.OK {
		return 0, e
	}
	if !isListed(p) {
		return 0, api.ErrPrime
	}
	if r.disc%p != 0 {
		return 2, api.OK
	}
	s := r.modulo(p)
	for c := range combinations(each(0), each(p-1)) {
		if count := len(roots(s.trace(c), s.norm(c), p)); count != 1 {
			return count - 1, api.OK
		}
	}
	return 0, api.OK
}
