package exact_test

import (
	"testing"

	"fourfold/api"
	"fourfold/exact"
	"fourfold/integer"
)

// valueOf is the norm of an element, r over den, divided by that of its lattice.
func valueOf(a api.Algebra, l exact.Lattice, r exact.Row, den api.Int) exact.Fraction {
	return exact.Quotient(r.Norm(a), integer.Mul(den, den)).Over(l.Norm(a))
}

// slowCounts counts the elements of l by their values, by trying all coordinates in the basis of l up to a size.
func slowCounts(a api.Algebra, l exact.Lattice, most, size int) []int {
	counts := make([]int, most+1)
	for w := -size; w <= size; w++ {
		for x := -size; x <= size; x++ {
			for y := -size; y <= size; y++ {
				for z := -size; z <= size; z++ {
					r := exact.Coordinates{w, x, y, z}.Of(l.Rows)
					if v, _ := valueOf(a, l, r, l.Den).Frac(); v.Num <= most {
						counts[v.Num]++
					}
				}
			}
		}
	}
	return counts
}

func TestBasisOfSmallLattices(t *testing.T) {
	for _, x := range []struct {
		a api.Algebra
		l api.Lattice
	}{
		{api.Algebra{A: -1, B: -1}, api.Lattice{Dim: 4, Rows: [][]int{{1, 0, 0, 0}, {0, 1, 0, 0}, {0, 0, 1, 0}, {0, 0, 0, 1}}, Den: 1}},
		{api.Algebra{A: -1, B: -1}, api.Lattice{Dim: 4, Rows: [][]int{{1, 1, 1, 1}, {0, 2, 0, 0}, {0, 0, 2, 0}, {0, 0, 0, 2}}, Den: 2}},
		{api.Algebra{A: -2, B: -3}, api.Lattice{Dim: 4, Rows: [][]int{{1, 1, 0, 1}, {0, 2, 1, 0}, {0, 0, 1, 0}, {0, 0, 0, 1}}, Den: 3}},
		{api.Algebra{A: -1, B: -7}, api.Lattice{Dim: 4, Rows: [][]int{{1, 0, 1, 0}, {0, 1, 0, 1}, {0, 0, 2, 0}, {0, 0, 0, 2}}, Den: 2}},
	} {
		l := exact.Of(x.l)
		b := exact.BasisOf(x.a, l)
		slow := slowCounts(x.a, l, 4, 6)
		for most := range slow {
			counts := b.Counts(most)
			want(t, "the number of counts", len(counts), most+1)
			for v, count := range counts {
				want(t, "Counts", count, slow[v])
			}
		}
	}
}

func TestBasis(t *testing.T) {
	for n, x := range lattices(t) {
		a := api.Algebra{A: -n%5 - 1, B: -n%7 - 1}
		l := exact.Of(x)
		b := exact.BasisOf(a, l)
		want(t, "the lattice of the basis", exact.Span(b.Den, b.Rows[:]...).Equals(l), true)
		for i, r := range b.Rows[1:] {
			want(t, "the order of the basis", integer.Cmp(b.Rows[i].Norm(a), r.Norm(a)) >= 0, true)
		}
		counts := b.Counts(100)
		for v, count := range counts {
			for r := range b.OfValue(v) {
				count--
				want(t, "an element", l.Holds(r, b.Den), true)
				want(t, "its value", valueOf(a, l, r, b.Den).Cmp(exact.Whole(v)), 0)
			}
			want(t, "the number of elements", count, 0)
		}
		moved := l.Moved(a, exact.RowOf([4]int{1, n, -2, 3}), integer.Of(n+1))
		other := exact.BasisOf(a, moved)
		want(t, "IsAlike", b.IsAlike(other) && other.IsAlike(b), true)
		for v, count := range other.Counts(100) {
			want(t, "Counts of x l", count, counts[v])
		}
		for range b.OfValue(0) {
			counts[0]--
		}
		want(t, "the element 0", counts[0], 0)
		for range b.OfValue(100) { // a loop that stops
			break
		}
	}
	one := exact.BasisOf(api.Algebra{A: -1, B: -1}, exact.Of(api.Lattice{Dim: 4, Rows: [][]int{{1, 0, 0, 0}, {0, 1, 0, 0}, {0, 0, 1, 0}, {0, 0, 0, 1}}, Den: 1}))
	two := exact.BasisOf(api.Algebra{A: -1, B: -2}, exact.Of(api.Lattice{Dim: 4, Rows: [][]int{{1, 0, 0, 0}, {0, 1, 0, 0}, {0, 0, 1, 0}, {0, 0, 0, 1}}, Den: 1}))
	want(t, "IsAlike of others", one.IsAlike(two), false)
}

func TestCoordinates(t *testing.T) {
	l := exact.Span(integer.Of(1), exact.RowOf([4]int{1, 2, 3, 4}), exact.RowOf([4]int{0, 5, 6, 7}), exact.RowOf([4]int{0, 0, 8, 9}), exact.RowOf([4]int{0, 0, 0, 10}))
	for _, c := range []exact.Coordinates{{1, 0, 0, 0}, {0, -2, 0, 1}, {3, -1, 4, -1}, {}} {
		r := c.Of(l.Rows)
		for j := range r {
			sum := 0
			for i, row := range l.Rows {
				n, _ := integer.Small(row[j])
				sum += c[i] * n
			}
			n, _ := integer.Small(r[j])
			want(t, "a coordinate", n, sum)
		}
	}
}

// No element of a basis becomes shorter by sums and differences of other ones.
func TestBasisIsReduced(t *testing.T) {
	seed := 1
	next := func(most int) int {
		seed = (seed*1103515245 + 12345) % (1 << 31)
		return seed / 65536 % most
	}
	for range 400 {
		a := api.Algebra{A: -1 - next(30), B: -1 - next(30)}
		var rows []exact.Row
		for i := range 4 {
			var r [4]int
			for j := i; j < 4; j++ {
				r[j] = next(1000)
			}
			r[i]++
			rows = append(rows, exact.RowOf(r))
		}
		b := exact.BasisOf(a, exact.Span(integer.Of(1), rows...))
		for n := range 81 {
			c := exact.Coordinates{n/27 - 1, n/9%3 - 1, n/3%3 - 1, n%3 - 1}
			for i, r := range b.Rows {
				if c[i] == 1 {
					want(t, "a shorter element", integer.Cmp(c.Of(b.Rows).Norm(a), r.Norm(a)) >= 0, true)
				}
			}
		}
	}
}

// Elements that are far too long are no parts, even if their values are no ints.
func TestBasisOfLongElements(t *testing.T) {
	a := api.Algebra{A: -1000, B: -1000}
	for _, scale := range []int{1, 1000, 1 << 40, 1 << 62} {
		l := exact.Span(integer.Of(1), exact.RowOf([4]int{1}), exact.RowOf([4]int{0, scale}), exact.RowOf([4]int{0, 0, scale}), exact.RowOf([4]int{0, 0, 0, scale}))
		counts := exact.BasisOf(a, l).Counts(200)
		for v, count := range counts { // the squares of integers
			wanted := 0
			for w := -15; w <= 15; w++ {
				if w*w == v {
					wanted++
				}
			}
			want(t, "Counts", count, wanted)
		}
	}
	l := exact.Span(integer.Of(1), exact.RowOf([4]int{1 << 40, 1}), exact.RowOf([4]int{0, 1<<40 + 1}), exact.RowOf([4]int{0, 0, 1 << 40}), exact.RowOf([4]int{0, 0, 1, 1 << 50}))
	for v, count := range exact.BasisOf(a, l).Counts(1000) {
		want(t, "Counts of a lattice without short elements", count == 0, v > 0)
	}
}
