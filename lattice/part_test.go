package lattice_test

import (
	"fmt"
	"slices"
	"testing"

	"fourfold/api"
	"fourfold/lattice"
)

// The tests of this file are those of P2.7.

func TestSublattices(t *testing.T) {
	plane := func(a, b, c int) api.Lattice { return api.Lattice{Dim: 2, Rows: matrix{{a, b}, {0, c}}, Den: 1} }
	for _, x := range []struct {
		l    api.Lattice
		p    int
		want []api.Lattice
	}{
		{integers(2), 2, []api.Lattice{plane(1, 0, 2), plane(2, 0, 1), plane(1, 1, 2)}}, {integers(2), 3, []api.Lattice{plane(1, 0, 3), plane(3, 0, 1), plane(1, 2, 3), plane(1, 1, 3)}},
		{api.Lattice{Dim: 2, Den: 3}, 2, nil}, {api.Lattice{Dim: 2, Den: 3}, 999999937, nil}, {api.Lattice{Dim: 2, Rows: matrix{{1, 3}}, Den: 6}, 2, []api.Lattice{{Dim: 2, Rows: matrix{{1, 3}}, Den: 3}}},
		{integers(1), 999999937, []api.Lattice{{Dim: 1, Rows: matrix{{999999937}}, Den: 1}}},
	} {
		list, e := lattice.Sublattices(x.l, x.p)
		wantResult(t, fmt.Sprint("Sublattices of ", x.l, " for ", x.p), list, e, x.want, api.OK)
	}
}

func TestSublatticesByTheirDefinition(t *testing.T) {
	n := numbers(18)
	for range 30 {
		dim, p := n.between(1, 4), []int{2, 3, 5}[n.between(0, 2)]
		l := n.lattice(dim, n.between(1, 3), 4, 4)
		normal, _ := lattice.Normal(l)
		list, e := lattice.Sublattices(l, p)
		want(t, "Sublattices", e, api.OK)
		at := 0
		for c := range box(len(normal.Rows), 0, p-1) {
			first := slices.IndexFunc(c, func(n int) bool { return n != 0 })
			if first < 0 || c[first] != 1 {
				continue
			}
			part := list[at]
			at++
			wantNormalForm(t, "a part", part)
			for x := range box(len(c), 0, p-1) {
				v, sum := make([]int, dim), 0
				for i, row := range normal.Rows {
					sum += c[i] * x[i]
					for j := range v {
						v[j] += x[i] * row[j]
					}
				}
				want(t, fmt.Sprint(x, " in part ", c, " of ", l), has(t, part, v, normal.Den), sum%p == 0)
			}
			for _, row := range part.Rows {
				want(t, "a part is in the lattice", has(t, l, row, part.Den), true)
			}
			want(t, "the rank of a part", len(part.Rows), len(c))
		}
		want(t, "the number of parts", at, len(list))
	}
}

func TestErrorsOfSublattices(t *testing.T) {
	for _, p := range []int{least, -2, 0, 1, 4, 91, 1000000000, 1000000007, greatest} {
		wantError(t, fmt.Sprint("Sublattices for ", p), api.ErrPrime, all(lattice.Sublattices(integers(2), p))...)
		wantError(t, fmt.Sprint("Sublattices for ", p), api.ErrPrime, all(lattice.Sublattices(api.Lattice{Dim: 1, Den: 1}, p))...)
	}
	for _, x := range []struct{ dim, p, count int }{{2, 4999, 5000}, {3, 67, 4557}, {4, 13, 2380}, {5, 7, 2801}, {6, 5, 3906}, {2, 5003, 0}, {3, 71, 0}, {4, 17, 0}, {5, 11, 0}, {6, 7, 0}, {2, 999999937, 0}, {6, 999999937, 0}} {
		list, e := lattice.Sublattices(integers(x.dim), x.p)
		if x.count == 0 {
			wantError(t, fmt.Sprint("Sublattices for ", x.p), api.ErrLarge, list, e)
			continue
		}
		wantResult(t, fmt.Sprint("Sublattices for ", x.p), len(list), e, x.count, api.OK)
	}
	wantError(t, "a large part", api.ErrLarge, all(lattice.Sublattices(api.Lattice{Dim: 1, Rows: matrix{{limit/2 + 1}}, Den: 1}, 2))...)
	list, e := lattice.Sublattices(api.Lattice{Dim: 1, Rows: matrix{{limit / 2}}, Den: 1}, 2)
	wantResult(t, "a part up to the limit", list, e, []api.Lattice{{Dim: 1, Rows: matrix{{limit}}, Den: 1}}, api.OK)
}
