package lattice_test

import (
	"fmt"
	"testing"

	"fourfold/api"
	"fourfold/lattice"
)

// The tests of this file are those of P2.6 and P2.8.

func TestDual(t *testing.T) {
	for _, x := range []struct {
		l    api.Lattice
		form matrix
		want api.Lattice
	}{
		{integers(2), matrix{{2, 1}, {1, 2}}, api.Lattice{Dim: 2, Rows: matrix{{1, 1}, {0, 3}}, Den: 3}}, {integers(6), unit(6), integers(6)}, {api.Lattice{Dim: 1, Rows: matrix{{6}}, Den: 5}, matrix{{-1}}, api.Lattice{Dim: 1, Rows: matrix{{5}}, Den: 6}},
		{api.Lattice{Dim: 1, Rows: matrix{{1}}, Den: limit}, matrix{{1}}, api.Lattice{Dim: 1, Rows: matrix{{limit}}, Den: 1}}, {integers(2), matrix{{0, 1}, {2, 0}}, api.Lattice{Dim: 2, Rows: matrix{{2, 0}, {0, 1}}, Den: 2}},
	} {
		d, e := lattice.Dual(x.l, x.form)
		wantResult(t, fmt.Sprint("Dual of ", x.l, " by ", x.form), d, e, x.want, api.OK)
	}
	n := numbers(14)
	for range 200 {
		dim := n.between(1, 3)
		l, form := n.full(dim, 3, 3), n.matrix(dim, dim, 2)
		d, e := lattice.Dual(l, form)
		if r, _ := lattice.Rank(form); r < dim {
			wantError(t, fmt.Sprint("Dual by ", form), api.ErrZero, d, e)
			continue
		}
		want(t, "Dual", e, api.OK)
		wantNormalForm(t, "Dual", d)
		for x := range box(dim, -4, 4) {
			products := times(times(matrix{x}, form), turned(l.Rows))[0]
			want(t, fmt.Sprint(x, "/4 in the dual of ", l, " by ", form), has(t, d, x, 4), gcdOf(append(products, 4*l.Den)...) == 4*l.Den)
		}
	}
}

func TestErrorsOfDual(t *testing.T) {
	flat := api.Lattice{Dim: 2, Rows: matrix{{1, 2}}, Den: 1}
	for _, form := range []matrix{nil, {nil}, {nil, nil}, {{1}}, {{1, 2}}, {{1}, {2}}, {{1, 0, 0}, {0, 1, 0}}, unit(3)} {
		wantError(t, fmt.Sprint("Dual by ", form), api.ErrShape, all(lattice.Dual(flat, form))...)
		wantError(t, fmt.Sprint("GramOf by ", form), api.ErrShape, all(lattice.GramOf(flat, form))...)
	}
	wantError(t, "Dual without full rank", api.ErrNone, all(lattice.Dual(flat, filled(2, 2, 0)))...)
	wantError(t, "Dual by a singular form", api.ErrZero, all(lattice.Dual(integers(2), filled(2, 2, 3)))...)
	wantError(t, "a large Dual", api.ErrLarge, all(lattice.Dual(integers(2), matrix{{limit, 1}, {1, 2}}))...)
	d, e := lattice.Dual(integers(2), diagonal(limit, -1))
	wantResult(t, "Dual up to the limit", d, e, api.Lattice{Dim: 2, Rows: matrix{{1, 0}, {0, limit}}, Den: limit}, api.OK)
}

func TestScale(t *testing.T) {
	for _, x := range []struct {
		l    api.Lattice
		by   api.Frac
		want api.Lattice
		e    api.Errno
	}{
		{integers(2), api.Frac{Num: 4, Den: 6}, api.Lattice{Dim: 2, Rows: diagonal(2, 2), Den: 3}, api.OK}, {integers(3), api.Frac{Num: 0, Den: 5}, api.Lattice{Dim: 3, Den: 1}, api.OK}, {integers(1), api.Frac{Num: -3, Den: 1}, api.Lattice{Dim: 1, Rows: matrix{{3}}, Den: 1}, api.OK},
		{api.Lattice{Dim: 2, Rows: matrix{{3, 6}, {6, 12}}, Den: 5}, api.Frac{Num: 5, Den: 3}, api.Lattice{Dim: 2, Rows: matrix{{1, 2}}, Den: 1}, api.OK}, {integers(1), api.Frac{Num: limit, Den: limit}, integers(1), api.OK},
		{integers(1), api.Frac{Num: limit, Den: limit - 1}, api.Lattice{Dim: 1, Rows: matrix{{limit}}, Den: limit - 1}, api.OK},
		{integers(1), api.Frac{Num: 1, Den: 0}, api.Lattice{}, api.ErrRange}, {integers(1), api.Frac{Num: 1, Den: -1}, api.Lattice{}, api.ErrRange}, {integers(1), api.Frac{Num: limit + 1, Den: 1}, api.Lattice{}, api.ErrRange}, {integers(1), api.Frac{Num: least, Den: 1}, api.Lattice{}, api.ErrRange}, {integers(1), api.Frac{Num: 1, Den: limit + 1}, api.Lattice{}, api.ErrRange},
		{api.Lattice{Dim: 1, Rows: matrix{{2}}, Den: 1}, api.Frac{Num: limit, Den: 1}, api.Lattice{}, api.ErrLarge}, {api.Lattice{Dim: 1, Rows: matrix{{1}}, Den: 2}, api.Frac{Num: 1, Den: limit}, api.Lattice{}, api.ErrLarge},
	} {
		l, e := lattice.Scale(x.l, x.by)
		wantResult(t, fmt.Sprint("Scale of ", x.l, " by ", x.by), l, e, x.want, x.e)
	}
	n := numbers(15)
	for range 200 {
		dim := n.between(1, 3)
		l, by := n.lattice(dim, n.between(0, 3), 5, 4), api.Frac{Num: n.between(-6, 6), Den: n.between(1, 4)}
		scaled, e := lattice.Scale(l, by)
		want(t, "Scale", e, api.OK)
		wantNormalForm(t, "Scale", scaled)
		for x := range box(dim, -3, 3) {
			if by.Num != 0 { // x in the lattice just if x times by is in the other one
				y := times(matrix{x}, diagonal(filled(1, dim, by.Num)[0]...))[0]
				want(t, fmt.Sprint(x, "/2 in ", l, " and times ", by), has(t, scaled, y, 2*by.Den), has(t, l, x, 2))
			}
		}
	}
}

func TestImage(t *testing.T) {
	n := numbers(16)
	for range 300 {
		dim, columns, den := n.between(1, 6), n.between(1, 6), n.between(1, 6)
		l, m := n.lattice(dim, n.between(0, 6), 5, 4), n.matrix(dim, columns, 4)
		image, e := lattice.Image(l, m, den)
		var rows matrix
		if len(l.Rows) > 0 {
			rows = times(l.Rows, m)
		}
		normal, f := lattice.Normal(api.Lattice{Dim: columns, Rows: rows, Den: l.Den * den})
		wantResult(t, fmt.Sprint("Image of ", l, " by ", m, " / ", den), image, e, normal, f)
	}
	for _, m := range []matrix{nil, unit(2), filled(4, 3, limit), filled(3, 7, 0), filled(3, 0, 0), filled(3, 64, 0)} {
		wantError(t, fmt.Sprint("Image by ", m), api.ErrShape, all(lattice.Image(integers(3), m, 0))...)
	}
	for _, den := range []int{0, -1, least, limit + 1} {
		wantError(t, fmt.Sprint("Image with the denominator ", den), api.ErrRange, all(lattice.Image(integers(3), filled(3, 6, limit), den))...)
	}
	wantError(t, "a large Image", api.ErrLarge, all(lattice.Image(api.Lattice{Dim: 1, Rows: matrix{{limit}}, Den: 1}, matrix{{2}}, 1))...)
	l, e := lattice.Image(api.Lattice{Dim: 1, Rows: matrix{{limit}}, Den: 1}, matrix{{limit}}, limit)
	wantResult(t, "Image up to the limit", l, e, api.Lattice{Dim: 1, Rows: matrix{{limit}}, Den: 1}, api.OK)
}

func TestGramOf(t *testing.T) {
	for _, x := range []struct {
		l    api.Lattice
		form matrix
		gram matrix
		den  int
		e    api.Errno
	}{
		{integers(2), matrix{{2, 1}, {0, 2}}, matrix{{2, 1}, {0, 2}}, 1, api.OK}, {api.Lattice{Dim: 2, Rows: unit(2), Den: 2}, matrix{{2, 0}, {0, 6}}, matrix{{1, 0}, {0, 3}}, 2, api.OK}, {api.Lattice{Dim: 2, Den: 1}, unit(2), nil, 1, api.OK},
		{api.Lattice{Dim: 2, Rows: matrix{{1, 1}, {2, 2}}, Den: 3}, matrix{{1, 0}, {0, -1}}, matrix{{0}}, 1, api.OK}, {api.Lattice{Dim: 3, Rows: unit(3), Den: limit}, filled(3, 3, 0), filled(3, 3, 0), 1, api.OK}, {api.Lattice{Dim: 1, Rows: matrix{{limit}}, Den: 1}, matrix{{1}}, nil, 0, api.ErrLarge},
		{api.Lattice{Dim: 1, Rows: matrix{{1}}, Den: limit}, matrix{{1}}, nil, 0, api.ErrLarge}, {api.Lattice{Dim: 1, Rows: matrix{{1}}, Den: limit}, matrix{{-limit}}, matrix{{-1}}, limit, api.OK},
	} {
		gram, den, e := lattice.GramOf(x.l, x.form)
		wantResult(t, fmt.Sprint("GramOf ", x.l, " by ", x.form), gram, e, x.gram, x.e)
		want(t, "its denominator", den, x.den)
	}
	n := numbers(17)
	for range 300 {
		dim := n.between(1, 6)
		l, form := n.lattice(dim, n.between(1, 6), 5, 6), n.matrix(dim, dim, 9)
		gram, den, e := lattice.GramOf(l, form)
		want(t, "GramOf", e, api.OK)
		normal, _ := lattice.Normal(l)
		g := den
		var products matrix
		if len(normal.Rows) > 0 {
			products = times(times(normal.Rows, form), turned(normal.Rows))
		}
		for i, row := range products {
			for j, x := range row {
				want(t, "an element of GramOf", gram[i][j]*normal.Den*normal.Den, x*den)
				g = gcdOf(g, gram[i][j])
			}
		}
		want(t, "what divides all of GramOf", g, 1)
		want(t, "the rows of GramOf", len(gram), len(normal.Rows))
	}
}
