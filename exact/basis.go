package exact

import (
	"iter"
	"math"
	"slices"

	"fourfold/api"
	"fourfold/integer"
)

// Coordinates are those of an element in a basis.
type Coordinates [4]int

// Of returns the element with these coordinates.
func (c Coordinates) Of(basis [4]Row) Row {
	var sum Row
	for i, b := range basis {
		sum = sum.Minus(integer.Of(-c[i]), b)
	}
	return sum
}

// directions yields the coordinates from -1 to 1, of each two opposite ones one, and not 0.
func directions(yield func(Coordinates) bool) {
	for n := 41; n < 81; n++ { // 40 has the digits 1, 1, 1, 1 in base three
		if !yield(Coordinates{n/27 - 1, n/9%3 - 1, n/3%3 - 1, n%3 - 1}) {
			return
		}
	}
}

// axes yields the coordinates of the elements of the basis.
func axes(yield func(Coordinates) bool) {
	for i := range 4 {
		var c Coordinates
		c[i] = 1
		if !yield(c) {
			return
		}
	}
}

// nearest returns an integer next to n / d, for positive d: 0 if 2 n is not greater than d in size.
func nearest(n, d api.Int) api.Int {
	double := integer.Add(n, n)
	if integer.Cmp(api.Int{Words: double.Words}, d) <= 0 {
		return api.Int{}
	}
	return Floor(integer.Add(double, d), integer.Add(d, d))
}

// Basis is a reduced basis of a lattice of a definite algebra, the longest element first: no element becomes shorter by a sum or difference of other ones.
// So it is reduced as Minkowski's are: there is no basis with shorter elements, and the product of the norms is at most 4 times the determinant of the norm form.
// The elements are Rows / Den.
type Basis struct {
	Rows    [4]Row
	Den     api.Int
	algebra api.Algebra
	norm    Fraction   // of the lattice
	values  [4]api.Int // the norms of the elements, divided by that of the lattice
}

// BasisOf returns a reduced basis of a lattice of a definite algebra.
func BasisOf(a api.Algebra, l Lattice) Basis {
	b := Basis{Rows: l.Rows, Den: l.Den, algebra: a, norm: l.Norm(a)}
	for b.shorten(axes) || b.shorten(directions) {
	}
	slices.SortFunc(b.Rows[:], func(r, s Row) int { return integer.Cmp(s.Norm(a), r.Norm(a)) })
	for i, r := range b.Rows {
		b.values[i] = b.over(r.Norm(a))
	}
	return b
}

// shorten makes elements shorter by multiples of the combinations of other ones that are yielded, and reports whether it has found such elements.
func (b *Basis) shorten(by iter.Seq[Coordinates]) bool {
	found := false
	for c := range by {
		w := c.Of(b.Rows)
		square := w.Between(b.algebra, w)
		for i, r := range b.Rows {
			if c[i] != 0 {
				continue
			}
			if t := nearest(r.Between(b.algebra, w), square); !IsZero(t) {
				b.Rows[i] = r.Minus(t, w)
				found = true
			}
		}
	}
	return found
}

// over returns a norm or trace n, which belongs to rows, divided by the norm of the lattice: an integer.
func (b Basis) over(n api.Int) api.Int {
	square := integer.Mul(b.Den, b.Den)
	return Floor(integer.Mul(n, b.norm.Den), integer.Mul(square, b.norm.Num))
}

// IsAlike reports whether the elements of two bases have the same values, as those of equivalent lattices have.
func (b Basis) IsAlike(c Basis) bool {
	return slices.EqualFunc(b.values[:], c.values[:], func(x, y api.Int) bool { return integer.Cmp(x, y) == 0 })
}

// most returns how often each element of the basis is at most a part of an element with the value v, in size: as the product of the norms is that small, the value of an element is at least a quarter of that of its part along each one.
func (b Basis) most(v int) Coordinates {
	var c Coordinates
	for i, value := range b.values {
		n, _ := integer.Small(Floor(integer.Of(4*v), value))
		c[i] = root(n)
	}
	return c
}

// form is the values of the combinations of a basis: at [i][j], for i <= j, stands the coefficient of c[i] c[j].
type form [4]Coordinates

// form returns the form of the basis. Numbers that are no ints are 0 there: they belong to elements that are no parts of those that are looked for.
func (b Basis) form() form {
	var f form
	for i, r := range b.Rows {
		f[i][i], _ = integer.Small(b.values[i])
		for j := i + 1; j < len(b.Rows); j++ {
			f[i][j], _ = integer.Small(b.over(r.Between(b.algebra, b.Rows[j])))
		}
	}
	return f
}

// value returns the value of the combination c.
func (f form) value(c Coordinates) int {
	sum := 0
	for i := range c {
		for j := i; j < len(c); j++ {
			sum += c[i] * c[j] * f[i][j]
		}
	}
	return sum
}

// square returns the first, middle and square with which c, whose last number is 0, has the value v with t there just if (first t + middle)^2 is the square, and less just if it is less: the value with t is f[3][3] t^2 + middle t + value(c).
func (f form) square(c Coordinates, v int) (first, middle, square int) {
	first = 2 * f[3][3]
	middle = c[0]*f[0][3] + c[1]*f[1][3] + c[2]*f[2][3]
	return first, middle, middle*middle + 2*first*(v-f.value(c))
}

// root returns the greatest integer whose square is at most n, which is not negative.
func root(n int) int {
	return int(math.Sqrt(float64(n))) // exact: there are few digits
}

// last returns the numbers t for which c, whose last number is 0, has the value v with t there.
func (f form) last(c Coordinates, v int) []int {
	first, middle, square := f.square(c, v)
	if square < 0 {
		return nil
	}
	root := root(square)
	if root*root != square {
		return nil
	}
	var list []int
	for _, n := range []int{-middle - root, root - middle} {
		if n%first == 0 && !slices.Contains(list, n/first) {
			list = append(list, n/first)
		}
	}
	return list
}

// ends returns the least and the greatest t for which c, whose last number is 0, has at most the value v with t there, the greatest one less than the least one if there is none.
func (f form) ends(c Coordinates, v int) (low, high int) {
	first, middle, square := f.square(c, v)
	if square < 0 {
		return 0, -1
	}
	root := root(square)
	return -floor(root+middle, first), floor(root-middle, first)
}

// floor returns n / d rounded down, for positive d.
func floor(n, d int) int {
	q := n / d
	if q*d > n {
		q--
	}
	return q
}

// starts yields combinations whose last number is 0: among them are those of all elements with the value v, but for their last numbers.
func (b Basis) starts(v int) iter.Seq[Coordinates] {
	most := b.most(v)
	return func(yield func(Coordinates) bool) {
		var choose func(c Coordinates, place int) bool
		choose = func(c Coordinates, place int) bool {
			if place == len(c)-1 {
				return yield(c)
			}
			for n := -most[place]; n <= most[place]; n++ {
				c[place] = n
				if !choose(c, place+1) {
					return false
				}
			}
			return true
		}
		choose(Coordinates{}, 0)
	}
}

// hasNone reports whether even the shortest element of the basis is longer than elements with the value v.
func (b Basis) hasNone(v int) bool {
	return b.most(v)[3] == 0
}

// OfValue yields the elements of the lattice whose norms are that of the lattice times v, which is from 0 to 1000, as rows over Den.
func (b Basis) OfValue(v int) iter.Seq[Row] {
	return func(yield func(Row) bool) {
		if v == 0 {
			yield(Row{})
			return
		}
		if b.hasNone(v) {
			return
		}
		f := b.form()
		for c := range b.starts(v) {
			for _, t := range f.last(c, v) {
				c[3] = t
				if !yield(c.Of(b.Rows)) {
					return
				}
			}
		}
	}
}

// Counts returns how many elements of the lattice have, as norms, that of the lattice times 0, 1, .., most, which is at most 1000.
func (b Basis) Counts(most int) []int {
	counts := make([]int, most+1)
	if b.hasNone(most) {
		counts[0] = 1
		return counts
	}
	f := b.form()
	for c := range b.starts(most) {
		low, high := f.ends(c, most)
		for c[3] = low; c[3] <= high; c[3]++ {
			counts[f.value(c)]++
		}
	}
	return counts
}
