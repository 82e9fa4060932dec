package lattice_test

import (
	"fmt"
	"slices"
	"testing"

	"fourfold/api"
	"fourfold/lattice"
)

// The tests of this file are those of P2.4.

// badLattices are lattices with their errors.
var badLattices = []struct {
	l api.Lattice
	e api.Errno
}{
	{api.Lattice{}, api.ErrRange}, {api.Lattice{Dim: 0, Den: 1}, api.ErrRange}, {api.Lattice{Dim: 7, Den: 1}, api.ErrRange}, {api.Lattice{Dim: -1, Den: 1}, api.ErrRange}, {api.Lattice{Dim: greatest, Den: 1}, api.ErrRange},
	{api.Lattice{Dim: 2, Den: 0}, api.ErrRange}, {api.Lattice{Dim: 2, Den: -1}, api.ErrRange}, {api.Lattice{Dim: 2, Den: limit + 1}, api.ErrRange}, {api.Lattice{Dim: 2, Den: least}, api.ErrRange},
	{api.Lattice{Dim: 2, Rows: filled(65, 3, 0), Den: 0}, api.ErrRange}, {api.Lattice{Dim: 2, Rows: filled(65, 3, 0), Den: 1}, api.ErrLarge}, {api.Lattice{Dim: 2, Rows: filled(65, 2, 0), Den: 1}, api.ErrLarge},
	{api.Lattice{Dim: 2, Rows: matrix{{1, 2}, {1}}, Den: 1}, api.ErrShape}, {api.Lattice{Dim: 2, Rows: matrix{nil}, Den: 1}, api.ErrShape}, {api.Lattice{Dim: 2, Rows: matrix{{limit + 1, 2, 3}}, Den: 1}, api.ErrShape},
	{api.Lattice{Dim: 2, Rows: matrix{{limit + 1, 2}, {1}}, Den: 1}, api.ErrRange}, {api.Lattice{Dim: 2, Rows: matrix{{1}, {limit + 1, 2}}, Den: 1}, api.ErrShape}, {api.Lattice{Dim: 1, Rows: matrix{{0}, {least}}, Den: 1}, api.ErrRange},
}

// integers is the lattice of all vectors of integers.
func integers(dim int) api.Lattice { return api.Lattice{Dim: dim, Rows: unit(dim), Den: 1} }

func TestCheck(t *testing.T) {
	for _, l := range []api.Lattice{{Dim: 1, Den: 1}, {Dim: 6, Den: limit}, {Dim: 6, Rows: filled(64, 6, -limit), Den: limit}, {Dim: 1, Rows: matrix{{limit}}, Den: 3}} {
		want(t, fmt.Sprint("Check of ", l), lattice.Check(l), api.OK)
	}
	for _, x := range badLattices {
		want(t, fmt.Sprint("Check of ", x.l), lattice.Check(x.l), x.e)
	}
}

// The error of the first lattice comes first, then that of the second one, then that of a form or matrix.
func TestErrorsOfLattices(t *testing.T) {
	bad, v, form := api.Lattice{Dim: 9}, api.Vector{}, matrix{{1}, nil}
	for _, x := range badLattices {
		what := fmt.Sprint(" of ", x.l)
		wantError(t, "Normal"+what, x.e, all(lattice.Normal(x.l))...)
		wantError(t, "Contains"+what, x.e, all(lattice.Contains(x.l, v))...)
		wantError(t, "Coordinates"+what, x.e, all(lattice.Coordinates(x.l, v))...)
		wantError(t, "Dual"+what, x.e, all(lattice.Dual(x.l, form))...)
		wantError(t, "Scale"+what, x.e, all(lattice.Scale(x.l, api.Frac{}))...)
		wantError(t, "Image"+what, x.e, all(lattice.Image(x.l, form, 0))...)
		wantError(t, "Sublattices"+what, x.e, all(lattice.Sublattices(x.l, 4))...)
		wantError(t, "GramOf"+what, x.e, all(lattice.GramOf(x.l, form))...)
		for name, f := range map[string]func(a, b api.Lattice) []any{
			"Sum":   func(a, b api.Lattice) []any { return all(lattice.Sum(a, b)) },
			"Meet":  func(a, b api.Lattice) []any { return all(lattice.Meet(a, b)) },
			"Index": func(a, b api.Lattice) []any { return all(lattice.Index(a, b)) },
		} {
			wantError(t, name+what, x.e, f(x.l, bad)...)
			wantError(t, name+what, x.e, f(integers(5), x.l)...)
		}
	}
	for _, x := range badMatrices {
		what := fmt.Sprint(" with ", x.m)
		thin := api.Lattice{Dim: 3, Den: 1}
		wantError(t, "Dual"+what, x.e, all(lattice.Dual(thin, x.m))...)
		wantError(t, "GramOf"+what, x.e, all(lattice.GramOf(thin, x.m))...)
		wantError(t, "Image"+what, x.e, all(lattice.Image(thin, x.m, 0))...)
	}
}

func TestNormal(t *testing.T) {
	for _, x := range []struct{ l, want api.Lattice }{
		{api.Lattice{Dim: 2, Rows: matrix{{2, 0}, {0, 2}, {1, 1}}, Den: 2}, api.Lattice{Dim: 2, Rows: matrix{{1, 1}, {0, 2}}, Den: 2}},
		{api.Lattice{Dim: 3, Den: 6}, api.Lattice{Dim: 3, Den: 1}}, {api.Lattice{Dim: 3, Rows: filled(5, 3, 0), Den: limit}, api.Lattice{Dim: 3, Den: 1}},
		{api.Lattice{Dim: 1, Rows: matrix{{-6}, {15}}, Den: 12}, api.Lattice{Dim: 1, Rows: matrix{{1}}, Den: 4}}, {api.Lattice{Dim: 2, Rows: matrix{{0, -4}}, Den: 2}, api.Lattice{Dim: 2, Rows: matrix{{0, 2}}, Den: 1}},
		{api.Lattice{Dim: 2, Rows: matrix{{limit, 0}, {limit - 1, limit}}, Den: limit}, api.Lattice{}},
		{api.Lattice{Dim: 2, Rows: matrix{{limit, limit}}, Den: limit}, api.Lattice{Dim: 2, Rows: matrix{{1, 1}}, Den: 1}},
		{api.Lattice{Dim: 2, Rows: matrix{{limit, 0}, {0, limit - 1}}, Den: 1}, api.Lattice{Dim: 2, Rows: matrix{{limit, 0}, {0, limit - 1}}, Den: 1}},
	} {
		l, e := lattice.Normal(x.l)
		if x.want.Dim == 0 {
			wantError(t, fmt.Sprint("Normal of ", x.l), api.ErrLarge, l, e)
			continue
		}
		wantResult(t, fmt.Sprint("Normal of ", x.l), l, e, x.want, api.OK)
	}
	n := numbers(9)
	for k := range 600 {
		dim := n.between(1, 6)
		l := n.lattice(dim, n.between(0, 6), []int{1, 5, 12}[k%3], 12)
		normal := wantNormal(t, l)
		for _, other := range sameLattices(&n, l) {
			m, e := lattice.Normal(other)
			wantResult(t, fmt.Sprint("Normal of ", other), m, e, normal, api.OK)
		}
	}
}

// wantNormal checks that the normal form is one, and that it has the vectors of l.
func wantNormal(t *testing.T, l api.Lattice) api.Lattice {
	t.Helper()
	m, e := lattice.Normal(l)
	want(t, "Normal", e, api.OK)
	h := slowHermite(l.Rows)
	h = slices.DeleteFunc(h, func(row []int) bool { return gcdOf(row...) == 0 })
	g := l.Den
	for _, row := range h {
		g = gcdOf(append(row, g)...)
	}
	for _, row := range h {
		for j := range row {
			row[j] /= g
		}
	}
	if !same(m, api.Lattice{Dim: l.Dim, Rows: h, Den: l.Den / g}) {
		t.Errorf("Normal of %v: %v", l, m)
	}
	return m
}

// sameLattices are lattices with the same vectors.
func sameLattices(n *numbers, l api.Lattice) []api.Lattice {
	if len(l.Rows) == 0 {
		return []api.Lattice{{Dim: l.Dim, Rows: filled(3, l.Dim, 0), Den: 7}}
	}
	mixed := times(n.unimodular(len(l.Rows), 8), l.Rows)
	more := append(copyOf(mixed), times(n.matrix(3, len(l.Rows), 2), l.Rows)...)
	scaled := copyOf(more)
	by := n.between(2, 9)
	for _, row := range scaled {
		for j := range row {
			row[j] *= by
		}
	}
	return []api.Lattice{{Dim: l.Dim, Rows: mixed, Den: l.Den}, {Dim: l.Dim, Rows: more, Den: l.Den}, {Dim: l.Dim, Rows: scaled, Den: by * l.Den}}
}

func TestErrorOfAVector(t *testing.T) {
	l := api.Lattice{Dim: 2, Rows: matrix{{1, 0}}, Den: 1}
	for _, x := range []struct {
		v api.Vector
		e api.Errno
	}{
		{api.Vector{}, api.ErrShape}, {api.Vector{Coords: []int{1}, Den: 0}, api.ErrShape}, {api.Vector{Coords: []int{1, limit + 1, 0}, Den: 1}, api.ErrShape},
		{api.Vector{Coords: []int{1, limit + 1}, Den: 1}, api.ErrRange}, {api.Vector{Coords: []int{least, 1}, Den: 1}, api.ErrRange}, {api.Vector{Coords: []int{1, 0}, Den: 0}, api.ErrRange}, {api.Vector{Coords: []int{1, 0}, Den: -1}, api.ErrRange}, {api.Vector{Coords: []int{0, 1}, Den: limit + 1}, api.ErrRange},
	} {
		wantError(t, fmt.Sprint("Contains ", x.v), x.e, all(lattice.Contains(l, x.v))...)
		wantError(t, fmt.Sprint("Coordinates ", x.v), x.e, all(lattice.Coordinates(l, x.v))...)
	}
}

// wantVector checks Contains and Coordinates for a vector that is a combination of the rows of the normal form, or, if there are no numbers, is none.
func wantVector(t *testing.T, l api.Lattice, v api.Vector, numbers []int, in bool) {
	t.Helper()
	what := fmt.Sprint(v, " in ", l)
	yes, e := lattice.Contains(l, v)
	wantResult(t, what, yes, e, in, api.OK)
	if !in {
		wantError(t, "Coordinates of "+what, api.ErrNone, all(lattice.Coordinates(l, v))...)
		return
	}
	list, e := lattice.Coordinates(l, v)
	wantResult(t, "Coordinates of "+what, list, e, numbers, api.OK)
}

func TestCoordinates(t *testing.T) {
	n := numbers(10)
	for range 300 {
		l := n.lattice(n.between(1, 6), n.between(0, 6), 9, 6)
		normal, _ := lattice.Normal(l)
		numbers := n.matrix(1, len(normal.Rows), 20)[0]
		by := n.between(1, 5)
		v := api.Vector{Coords: make([]int, l.Dim), Den: by * normal.Den}
		for i, row := range normal.Rows {
			for j, x := range row {
				v.Coords[j] += by * numbers[i] * x
			}
		}
		wantVector(t, l, v, numbers, true)
		v.Den *= 1009
		zero := gcdOf(numbers...) == 0
		wantVector(t, l, v, numbers, zero)
	}
	for _, x := range []struct {
		l       api.Lattice
		v       api.Vector
		numbers []int
		in      bool
	}{
		{api.Lattice{Dim: 2, Den: 1}, api.Vector{Coords: []int{0, 0}, Den: 5}, nil, true}, {api.Lattice{Dim: 2, Den: 1}, api.Vector{Coords: []int{0, 1}, Den: 1}, nil, false},
		{api.Lattice{Dim: 2, Rows: matrix{{1, 1}}, Den: 2}, api.Vector{Coords: []int{3, 3}, Den: 6}, []int{1}, true}, {api.Lattice{Dim: 2, Rows: matrix{{1, 1}}, Den: 2}, api.Vector{Coords: []int{1, 2}, Den: 2}, nil, false},
		{api.Lattice{Dim: 2, Rows: matrix{{0, 2}}, Den: 1}, api.Vector{Coords: []int{2, 2}, Den: 1}, nil, false}, {api.Lattice{Dim: 2, Rows: matrix{{2, 0}, {0, 3}}, Den: 1}, api.Vector{Coords: []int{4, 1}, Den: 1}, nil, false},
	} {
		wantVector(t, x.l, x.v, x.numbers, x.in)
	}
}

// Only the result is measured, not the normal form or the products on the way.
func TestLargeNumbersOnTheWay(t *testing.T) {
	wide := api.Lattice{Dim: 2, Rows: matrix{{limit - 1, 1}, {limit, limit}}, Den: limit}
	wantError(t, "Normal of a wide lattice", api.ErrLarge, all(lattice.Normal(wide))...)
	wantVector(t, wide, api.Vector{Coords: []int{limit - 1, 1}, Den: limit}, []int{limit - 1, -1}, true)
	wantVector(t, wide, api.Vector{Coords: []int{1, limit}, Den: limit}, nil, false)
	in, e := lattice.Contains(wide, api.Vector{Coords: []int{0, 0}, Den: limit})
	wantResult(t, "0 in a wide lattice", in, e, true, api.OK)
	fine := api.Lattice{Dim: 1, Rows: matrix{{1}}, Den: limit}
	in, e = lattice.Contains(fine, api.Vector{Coords: []int{limit}, Den: 1})
	wantResult(t, "Contains with a large number", in, e, true, api.OK)
	wantError(t, "Coordinates with a large number", api.ErrLarge, all(lattice.Coordinates(fine, api.Vector{Coords: []int{2}, Den: 1}))...)
	list, e := lattice.Coordinates(fine, api.Vector{Coords: []int{-1}, Den: 1})
	wantResult(t, "Coordinates up to the limit", list, e, []int{-limit}, api.OK)
}
