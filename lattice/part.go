package lattice

import (
	"iter"
	"slices"

	"fourfold/api"
	"fourfold/integer"
)

// Sublattices returns the parts of an index.
func Sublattices(l api.Lattice, p int) ([]api.Lattice, api.Errno) {
	if e := Check(l); e != api.OK {
		return nil, e
	}
	if !integer.IsPrime(p) {
		return nil, api.ErrPrime
	}
	b := basisOf(l)
	if tooMany(len(b.rows), p) {
		return nil, api.ErrLarge
	}
	var list []api.Lattice
	for c := range directions(len(b.rows), p) {
		part, e := b.part(c, p).lattice()
		if e != api.OK {
			return nil, e
		}
		list = append(list, part)
	}
	return list, api.OK
}

// tooMany reports whether there are more than MaxVectors directions.
func tooMany(k, p int) bool {
	count, power := 0, 1
	for range k {
		count += power
		if count > api.MaxVectors {
			return true
		}
		power *= p
	}
	return false
}

// directions yields the lists of k numbers from 0 to p - 1 whose first element other than 0 is 1, in lexicographic order. They share their memory.
func directions(k, p int) iter.Seq[[]int] {
	return func(yield func([]int) bool) {
		c := make([]int, k)
		var fill func(i int, begun bool) bool
		fill = func(i int, begun bool) bool {
			if i == k {
				return !begun || yield(c)
			}
			most := 1
			if begun {
				most = p - 1
			}
			for n := range most + 1 {
				c[i] = n
				if !fill(i+1, begun || n > 0) {
					return false
				}
			}
			return true
		}
		fill(0, false)
	}
}

// part returns the lattice of the combinations of the rows with multiples x for which p divides c1 x1 + .. + ck xk.
func (b basis) part(c []int, p int) basis {
	first := slices.Index(c, 1)
	rows := make([][]number, len(b.rows))
	for i, row := range b.rows {
		rows[i] = slices.Clone(row)
		if i != first {
			addMultiple(rows[i], numberOf(-c[i]), b.rows[first])
		}
	}
	addMultiple(rows[first], numberOf(p-1), b.rows[first])
	return span(b.dim, rows, b.den)
}
