package brandt

import (
	"slices"

	"fourfold/api"
	"fourfold/exact"
	"fourfold/integer"
)

// modular is a square matrix modulo the prime p, which is at most MaxModulus. Its elements are from 0 to p - 1.
type modular struct {
	rows [][]int
	p    int
}

// modularOf returns m modulo p.
func modularOf(m [][]int, p int) modular {
	r := modular{p: p}
	for _, row := range m {
		list := make([]int, len(row))
		for j, n := range row {
			list[j] = residue(n, p)
		}
		r.rows = append(r.rows, list)
	}
	return r
}

// residue returns the residue of n modulo p.
func residue(n, p int) int {
	return (n%p + p) % p
}

// exchange exchanges two rows, and the columns with the same numbers.
func (m modular) exchange(i, j int) {
	m.rows[i], m.rows[j] = m.rows[j], m.rows[i]
	for _, row := range m.rows {
		row[i], row[j] = row[j], row[i]
	}
}

// subtract takes row j times by from row i, and adds column i times by to column j.
func (m modular) subtract(i, j, by int) {
	for k, n := range m.rows[j] {
		m.rows[i][k] = residue(m.rows[i][k]-by*n, m.p)
	}
	for _, row := range m.rows {
		row[j] = (row[j] + by*row[i]) % m.p
	}
}

// reduce makes all elements below those next to the diagonal 0. The characteristic polynomial stays as it is.
func (m modular) reduce() {
	for j := 0; j+2 < len(m.rows); j++ {
		pivot := slices.IndexFunc(m.rows[j+1:], func(row []int) bool { return row[j] != 0 })
		if pivot < 0 {
			continue
		}
		m.exchange(j+1, j+1+pivot)
		inverse, _ := integer.Inverse(m.rows[j+1][j], m.p)
		for i := j + 2; i < len(m.rows); i++ {
			if n := m.rows[i][j]; n != 0 {
				m.subtract(i, j+1, n*inverse%m.p)
			}
		}
	}
}

// characteristic returns the characteristic polynomial, from the constant coefficient on. The elements of m are changed.
// After reduce, that of the first k + 1 rows and columns is x times that of the first k, less the ones of fewer rows, times an element of column k and those next to the diagonal in between.
func (m modular) characteristic() []int {
	m.reduce()
	list := [][]int{{1}}
	for k := range m.rows {
		next := append([]int{0}, list[k]...)
		by := 1
		for i := k; i >= 0; i-- {
			for place, n := range list[i] {
				next[place] = residue(next[place]-by*m.rows[i][k]%m.p*n, m.p)
			}
			if i > 0 {
				by = by * m.rows[i][i-1] % m.p
			}
		}
		list = append(list, next)
	}
	return list[len(m.rows)]
}

// lifted is integers that are known modulo a product of primes. They are from 0 to the product less 1.
type lifted struct {
	numbers []api.Int
	product api.Int
}

// lift goes on to the integers that also have these residues modulo p, a prime that is new.
func (l *lifted) lift(residues []int, p int) {
	inverse, _ := integer.Inverse(exact.Residue(l.product, p), p)
	for i, n := range l.numbers {
		by := residue(residues[i]-exact.Residue(n, p), p) * inverse % p
		l.numbers[i] = sum(product{n, integer.Of(1)}, product{l.product, integer.Of(by)})
	}
	l.product = integer.Mul(l.product, integer.Of(p))
}

// balanced returns the integers with the same residues that are at most half of the product, in size.
func (l *lifted) balanced() []api.Int {
	list := make([]api.Int, len(l.numbers))
	for i, n := range l.numbers {
		if integer.Cmp(integer.Add(n, n), l.product) > 0 {
			n = integer.Sub(n, l.product)
		}
		list[i] = n
	}
	return list
}

// mostCoefficient returns a number that no coefficient of the characteristic polynomial is greater than, in size. No eigenvalue is greater than the sums of the sizes of the elements of the rows; if these are at most s, the coefficients are at most those of (x + s)^n.
func mostCoefficient(m [][]int) api.Int {
	most := 0
	for _, row := range m {
		total := 0
		for _, n := range row {
			total += max(n, -n)
		}
		most = max(most, total)
	}
	return power(integer.Of(most+1), len(m))
}

// characteristic returns the characteristic polynomial of m, from its residues modulo as many primes as are needed to tell all possible coefficients apart.
func characteristic(m [][]int) polynomial {
	l := lifted{numbers: make([]api.Int, len(m)+1), product: integer.Of(1)}
	most := mostCoefficient(m)
	enough := integer.Add(most, most)
	for p := api.MaxModulus; integer.Cmp(l.product, enough) <= 0; p-- {
		if integer.IsPrime(p) {
			l.lift(modularOf(m, p).characteristic(), p)
		}
	}
	return l.balanced()
}

// Characteristic returns the characteristic polynomial.
func Characteristic(m [][]int) ([]api.Int, api.Errno) {
	if e := checkMatrix(m); e != api.OK {
		return nil, e
	}
	return characteristic(m).result(), api.OK
}
