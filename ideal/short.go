package ideal

import (
	"iter"
	"math"
	"slices"

	"fourfold/api"
	"fourfold/exact"
	"fourfold/integer"
)

// coordinates are those of an element in a basis.
type coordinates [4]int

// of returns the element with these coordinates.
func (c coordinates) of(basis [4]exact.Row) exact.Row {
	var sum exact.Row
	for i, b := range basis {
		sum = sum.Minus(integer.Of(-c[i]), b)
	}
	return sum
}

// directions yields the coordinates from -1 to 1, of each two opposite ones one, and not 0.
func directions(yield func(coordinates) bool) {
	for n := 41; n < 81; n++ { // 40 has the digits 1, 1, 1, 1 in base three
		if !yield(coordinates{n/27 - 1, n/9%3 - 1, n/3%3 - 1, n%3 - 1}) {
			return
		}
	}
}

// nearest returns an integer next to n / d, for positive d: 0 if 2 n is not greater than d in size.
func nearest(n, d api.Int) api.Int {
	double := integer.Add(n, n)
	if integer.Cmp(api.Int{Words: double.Words}, d) <= 0 {
		return api.Int{}
	}
	return exact.Floor(integer.Add(double, d), integer.Add(d, d))
}

// basis is a reduced basis of a lattice of a definite algebra, the longest element first: no element becomes shorter by a sum or difference of other ones.
// So it is reduced as Minkowski's are: there is no basis with shorter elements, and the product of the norms is at most 4 times the determinant of the norm form.
type basis struct {
	algebra api.Algebra
	rows    [4]exact.Row
	den     api.Int
	norm    exact.Fraction // of the lattice
	values  [4]api.Int     // the norms of the elements, divided by that of the lattice
}

// basisOf returns a reduced basis of a lattice.
func basisOf(a api.Algebra, l exact.Lattice) basis {
	b := basis{algebra: a, rows: l.Rows, den: l.Den, norm: l.Norm(a)}
	for b.shorten() {
	}
	slices.SortFunc(b.rows[:], func(r, s exact.Row) int { return integer.Cmp(s.Norm(a), r.Norm(a)) })
	for i, r := range b.rows {
		b.values[i] = b.over(r.Norm(a))
	}
	return b
}

// shorten makes elements shorter by sums and differences of other ones, and reports whether it has found such elements.
func (b *basis) shorten() bool {
	found := false
	for c := range directions {
		w := c.of(b.rows)
		square := w.Between(b.algebra, w)
		for i, r := range b.rows {
			if c[i] != 0 {
				continue
			}
			if t := nearest(r.Between(b.algebra, w), square); !exact.IsZero(t) {
				b.rows[i] = r.Minus(t, w)
				found = true
			}
		}
	}
	return found
}

// over returns a norm or trace n, which belongs to rows, divided by the norm of the lattice: an integer.
func (b basis) over(n api.Int) api.Int {
	square := integer.Mul(b.den, b.den)
	return exact.Floor(integer.Mul(n, b.norm.Den), integer.Mul(square, b.norm.Num))
}

// isAlike reports whether the elements of two bases have the same values, as those of equivalent lattices have.
func (b basis) isAlike(c basis) bool {
	return slices.EqualFunc(b.values[:], c.values[:], func(x, y api.Int) bool { return integer.Cmp(x, y) == 0 })
}

// most returns how often each element of the basis is at most a part of an element with the value v, in size: as the product of the norms is that small, the value of an element is at least a quarter of that of its part along each one.
func (b basis) most(v int) coordinates {
	var c coordinates
	for i, value := range b.values {
		n, _ := integer.Small(exact.Floor(integer.Of(4*v), value))
		c[i] = int(math.Sqrt(float64(n))) // exact: there are few digits
	}
	return c
}

// form is the values of the combinations of a basis: at [i][j], for i <= j, stands the coefficient of c[i] c[j].
type form [4]coordinates

// form returns the form of the basis. Numbers that are no ints are 0 there: they belong to elements that are no parts of those that are looked for.
func (b basis) form() form {
	var f form
	for i, r := range b.rows {
		f[i][i], _ = integer.Small(b.values[i])
		for j := i + 1; j < len(b.rows); j++ {
			f[i][j], _ = integer.Small(b.over(r.Between(b.algebra, b.rows[j])))
		}
	}
	return f
}

// value returns the value of the combination c.
func (f form) value(c coordinates) int {
	sum := 0
	for i := range c {
		for j := i; j < len(c); j++ {
			sum += c[i] * c[j] * f[i][j]
		}
	}
	return sum
}

// last returns the numbers t for which c, whose last number is 0, has the value v with t there: the integers with f[3][3] t^2 + middle t = v - value(c).
func (f form) last(c coordinates, v int) []int {
	first := 2 * f[3][3]
	middle := c[0]*f[0][3] + c[1]*f[1][3] + c[2]*f[2][3]
	square := middle*middle + 2*first*(v-f.value(c))
	if square < 0 {
		return nil
	}
	root := int(math.Sqrt(float64(square))) // exact: there are few digits
	if root*root != square {
		return nil
	}
	var list []int
	for _, n := range []int{-middle - root, root - middle} {
		if n%first == 0 && !slices.Contains(list, n/first) {
			list = append(list, n/first)
		}
	}
	return list
}

// ofValue yields the elements of the lattice whose norms are that of the lattice times v, which is from 0 to 1000, as rows over b.den.
func (b basis) ofValue(v int) iter.Seq[exact.Row] {
	return func(yield func(exact.Row) bool) {
		if v == 0 {
			yield(exact.Row{})
			return
		}
		most := b.most(v)
		if most[3] == 0 { // even the shortest element is too long
			return
		}
		f := b.form()
		var choose func(c coordinates, place int) bool
		choose = func(c coordinates, place int) bool {
			if place == 3 {
				for _, t := range f.last(c, v) {
					c[3] = t
					if !yield(c.of(b.rows)) {
						return false
					}
				}
				return true
			}
			for n := -most[place]; n <= most[place]; n++ {
				c[place] = n
				if !choose(c, place+1) {
					return false
				}
			}
			return true
		}
		choose(coordinates{}, 0)
	}
}
