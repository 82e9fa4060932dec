package quadratic

import (
	"iter"
	"math"
	"slices"

	"fourfold/api"
	"fourfold/lattice"
)

// root returns the greatest integer whose square is at most n, for n that is not negative and has so few digits that this is exact.
func root(n int) int {
	return int(math.Sqrt(float64(n)))
}

// floor returns n / d rounded down, for positive d.
func floor(n, d int) int {
	q := n / d
	if q*d > n {
		q--
	}
	return q
}

// reach returns how far each number of a vector may be from 0 if its value is at most most: as the square of number i is at most the product of the vector with itself, times number i of the diagonal of the inverse.
func (f form) reach(most int) vector {
	d := f.det()
	var v vector
	for i := range f.n {
		v[i] = root(2 * most * f.cofactor(i, i) / d)
	}
	return v
}

// along returns the first numbers, from low to high, that make the value of x, whose first number is 0, at most most: the t with a t^2 + 2 b t + c <= 2 most.
func (f form) along(x vector, most int) (low, high int) {
	a, b, c := f.gram[0][0], f.product(x, vector{1}), f.product(x, x)
	square := b*b - a*(c-2*most)
	if square < 0 {
		return 0, -1
	}
	r := root(square)
	return -floor(r+b, a), floor(r-b, a)
}

// upTo yields all vectors whose value is at most most, and their values; 0 and of two opposite ones both.
// The form should be reduced: else there are many ways on which no vector is found.
func (f form) upTo(most int) iter.Seq2[vector, int] {
	return func(yield func(vector, int) bool) {
		reach := f.reach(most)
		var choose func(x vector, place int) bool
		choose = func(x vector, place int) bool {
			if place > 0 {
				for n := -reach[place]; n <= reach[place]; n++ {
					x[place] = n
					if !choose(x, place-1) {
						return false
					}
				}
				return true
			}
			low, high := f.along(x, most)
			for t := low; t <= high; t++ {
				x[0] = t
				if !yield(x, f.product(x, x)/2) {
					return false
				}
			}
			return true
		}
		choose(vector{}, f.n-1)
	}
}

// theta returns how many vectors have each value from 0 to most.
func (f form) theta(most int) []int {
	counts := make([]int, most+1)
	r, _ := f.reduced()
	for _, value := range r.upTo(most) {
		counts[value]++
	}
	return counts
}

// acceptUpTo returns a form, or its error, or ErrRange if a value is out of the range of those that are represented.
func acceptUpTo(f api.Form, value int) (form, api.Errno) {
	g, e := accept(f)
	if e != api.OK {
		return form{}, e
	}
	if value < 0 || value > api.MaxValue {
		return form{}, api.ErrRange
	}
	return g, api.OK
}

// Short returns the vectors of values up to most.
func Short(f api.Form, most int) ([][]int, api.Errno) {
	if _, e := acceptUpTo(f, most); e != api.OK {
		return nil, e
	}
	return lattice.Vectors(f.Gram, 2*most)
}

// Represent returns the vectors of the value n.
func Represent(f api.Form, n int) ([][]int, api.Errno) {
	g, e := acceptUpTo(f, n)
	if e != api.OK {
		return nil, e
	}
	r, basis := g.reduced()
	var list []vector
	for x, value := range r.upTo(n) {
		if value != n {
			continue
		}
		if len(list) == api.MaxVectors {
			return nil, api.ErrLarge
		}
		list = append(list, x.times(basis))
	}
	slices.SortFunc(list, compareVectors)
	var rows [][]int
	for _, x := range list {
		rows = append(rows, slices.Clone(x[:g.n]))
	}
	return rows, api.OK
}

// Theta returns the numbers of the vectors of each value.
func Theta(f api.Form, most int) ([]int, api.Errno) {
	g, e := acceptUpTo(f, most)
	if e != api.OK {
		return nil, e
	}
	return g.theta(most), api.OK
}

// Primitive returns the number of the vectors of the value n whose numbers have no common divisor.
func Primitive(f api.Form, n int) (int, api.Errno) {
	g, e := acceptUpTo(f, n)
	if e != api.OK {
		return 0, e
	}
	r, _ := g.reduced() // this does not change common divisors
	count := 0
	for x, value := range r.upTo(n) {
		if value == n && commonDivisor(commonDivisor(x[0], x[1]), commonDivisor(x[2], x[3])) == 1 {
			count++
		}
	}
	return count, api.OK
}
