package lattice_test

import (
	"fmt"
	"testing"

	"fourfold/api"
	"fourfold/lattice"
)

// The tests of this file are those of P2.5.

// has reports whether x / den is in l.
func has(t *testing.T, l api.Lattice, x []int, den int) bool {
	t.Helper()
	in, e := lattice.Contains(l, api.Vector{Coords: x, Den: den})
	want(t, "Contains", e, api.OK)
	return in
}

// wantNormalForm checks that a result is in normal form.
func wantNormalForm(t *testing.T, what string, l api.Lattice) {
	t.Helper()
	normal, e := lattice.Normal(l)
	wantResult(t, what+": normal form", l, api.OK, normal, e)
}

func TestMeet(t *testing.T) {
	n := numbers(11)
	for range 150 {
		dim := n.between(1, 3)
		a, b := n.lattice(dim, n.between(0, 3), 4, 3), n.lattice(dim, n.between(0, 3), 4, 3)
		meet, e := lattice.Meet(a, b)
		want(t, "Meet", e, api.OK)
		wantNormalForm(t, "Meet", meet)
		for x := range box(dim, -6, 6) {
			want(t, fmt.Sprint(x, "/6 in the intersection of ", a, " and ", b), has(t, meet, x, 6), has(t, a, x, 6) && has(t, b, x, 6))
		}
	}
}

func TestSum(t *testing.T) {
	n := numbers(12)
	for range 150 {
		dim := n.between(1, 6)
		a, b := n.lattice(dim, n.between(0, 5), 4, 6), n.lattice(dim, n.between(0, 5), 4, 6)
		sum, e := lattice.Sum(a, b)
		want(t, "Sum", e, api.OK)
		wantNormalForm(t, "Sum", sum)
		both := api.Lattice{Dim: dim, Den: a.Den * b.Den} // by the definition: the rows of both
		for _, x := range []struct {
			rows matrix
			by   int
		}{{a.Rows, b.Den}, {b.Rows, a.Den}} {
			for _, row := range copyOf(x.rows) {
				for j := range row {
					row[j] *= x.by
				}
				both.Rows = append(both.Rows, row)
			}
		}
		normal, f := lattice.Normal(both)
		wantResult(t, fmt.Sprint("Sum of ", a, " and ", b), sum, e, normal, f)
	}
}

func TestSumAndMeetOfGivenLattices(t *testing.T) {
	line := func(den int, row ...int) api.Lattice { return api.Lattice{Dim: len(row), Rows: matrix{row}, Den: den} }
	none := api.Lattice{Dim: 2, Den: 1}
	for _, x := range []struct{ a, b, sum, meet api.Lattice }{
		{line(1, 4), line(1, 6), line(1, 2), line(1, 12)}, {line(4, 1), line(6, 1), line(12, 1), line(2, 1)}, {none, none, none, none}, {none, line(3, 1, 2), line(3, 1, 2), none},
		{line(1, 1, 0), line(1, 0, 1), integers(2), none}, {line(1, 2, 2), line(2, 3, 3), line(2, 1, 1), line(1, 6, 6)}, {line(2, 0, 3), integers(2), api.Lattice{Dim: 2, Rows: matrix{{2, 0}, {0, 1}}, Den: 2}, line(1, 0, 3)},
	} {
		what := fmt.Sprint(" of ", x.a, " and ", x.b)
		sum, e := lattice.Sum(x.a, x.b)
		wantResult(t, "Sum"+what, sum, e, x.sum, api.OK)
		meet, e := lattice.Meet(x.a, x.b)
		wantResult(t, "Meet"+what, meet, e, x.meet, api.OK)
	}
	fine, finer := api.Lattice{Dim: 1, Rows: matrix{{1}}, Den: limit}, api.Lattice{Dim: 1, Rows: matrix{{1}}, Den: limit - 1}
	wantError(t, "a large Sum", api.ErrLarge, all(lattice.Sum(fine, finer))...)
	meet, e := lattice.Meet(fine, finer)
	wantResult(t, "the intersection", meet, e, integers(1), api.OK)
	wantError(t, "a large Meet", api.ErrLarge, all(lattice.Meet(line(1, limit), line(1, limit-1)))...)
	sum, e := lattice.Sum(line(1, limit), line(1, limit-1))
	wantResult(t, "the sum", sum, e, integers(1), api.OK)
}

func TestIndex(t *testing.T) {
	half := api.Lattice{Dim: 2, Rows: unit(2), Den: 2}
	large := api.Lattice{Dim: 2, Rows: diagonal(limit, limit), Den: 1}
	for _, x := range []struct {
		a, b api.Lattice
		want api.Frac
		e    api.Errno
	}{
		{half, integers(2), api.Frac{Num: 4, Den: 1}, api.OK}, {integers(2), half, api.Frac{Num: 1, Den: 4}, api.OK}, {large, large, api.Frac{Num: 1, Den: 1}, api.OK}, {integers(2), large, api.Frac{}, api.ErrLarge}, {large, integers(2), api.Frac{}, api.ErrLarge},
		{api.Lattice{Dim: 2, Rows: matrix{{2, 0}, {0, 3}}, Den: 1}, api.Lattice{Dim: 2, Rows: matrix{{1, 7}, {0, 4}}, Den: 1}, api.Frac{Num: 2, Den: 3}, api.OK}, {integers(1), api.Lattice{Dim: 1, Rows: matrix{{-limit}}, Den: 1}, api.Frac{Num: limit, Den: 1}, api.OK},
		{api.Lattice{Dim: 2, Rows: matrix{{1, 1}, {2, 2}}, Den: 1}, integers(2), api.Frac{}, api.ErrNone}, {large, api.Lattice{Dim: 2, Den: 1}, api.Frac{}, api.ErrNone}, {api.Lattice{Dim: 2, Den: 1}, api.Lattice{Dim: 2, Den: 1}, api.Frac{}, api.ErrNone},
	} {
		i, e := lattice.Index(x.a, x.b)
		wantResult(t, fmt.Sprint("Index of ", x.a, " and ", x.b), i, e, x.want, x.e)
	}
}

func TestIndexCountsClasses(t *testing.T) {
	n := numbers(13)
	for range 60 {
		dim := n.between(1, 3)
		l := n.full(dim, 3, 1)
		i, e := lattice.Index(integers(dim), l)
		want(t, "Index", e, api.OK)
		if i.Den != 1 || i.Num > 6 {
			continue
		}
		inside := 0 // of the classes of all integer vectors modulo the index, those that are in l
		for x := range box(dim, 0, i.Num-1) {
			if has(t, l, x, 1) {
				inside++
			}
		}
		all := 1
		for range dim {
			all *= i.Num
		}
		want(t, fmt.Sprint("Index of ", l, " times the vectors inside"), inside*i.Num, all)
	}
}

func TestErrorsOfTwoLattices(t *testing.T) {
	flat := api.Lattice{Dim: 3, Rows: matrix{{1, 2, limit}}, Den: limit}
	wantError(t, "Sum in two spaces", api.ErrShape, all(lattice.Sum(integers(2), flat))...)
	wantError(t, "Meet in two spaces", api.ErrShape, all(lattice.Meet(flat, integers(2)))...)
	wantError(t, "Index in two spaces", api.ErrShape, all(lattice.Index(flat, integers(2)))...)
	wantError(t, "Index without full rank", api.ErrNone, all(lattice.Index(flat, integers(3)))...)
}
