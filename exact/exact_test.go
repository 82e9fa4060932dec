package exact_test

import (
	"math"
	"math/big"
	"slices"
	"testing"

	"fourfold/api"
	"fourfold/exact"
	"fourfold/integer"
	"fourfold/lattice"
)

// What this package does is tested with packages order and ideal, against the definitions. The tests of this file compare it with package lattice, where numbers are small, and with big fractions.

// want compares comparable results.
func want[T comparable](t *testing.T, what string, got, wanted T) {
	t.Helper()
	if got != wanted {
		t.Errorf("%s: %v, want %v", what, got, wanted)
	}
}

// lattices are some lattices of rank 4, and their normal forms.
func lattices(t *testing.T) []api.Lattice {
	t.Helper()
	var list []api.Lattice
	for n := 1; n < 40; n++ {
		l := api.Lattice{Dim: 4, Den: n%7 + 1}
		for row := range 5 {
			l.Rows = append(l.Rows, []int{(n*n + 3*row) % 11, row * row % 5, (n - row) % 4, (7*n + row*row*row) % 13})
		}
		normal, e := lattice.Normal(l)
		if e == api.OK && len(normal.Rows) == 4 {
			list = append(list, l)
		}
	}
	if len(list) < 20 {
		t.Fatalf("only %d lattices", len(list))
	}
	return list
}

// wantLattice checks that a lattice has the normal form of another one.
func wantLattice(t *testing.T, what string, got exact.Lattice, l api.Lattice) {
	t.Helper()
	normal, e := got.Normal()
	want(t, what, e, api.OK)
	wanted, _ := lattice.Normal(l)
	want(t, what, exact.Compare(normal, wanted), 0)
	want(t, what, got.Equals(exact.Of(l)), true)
}

func TestLattices(t *testing.T) {
	list := lattices(t)
	for n, l := range list {
		accepted, e := exact.Accept(l)
		want(t, "Accept", e, api.OK)
		wantLattice(t, "the normal form", accepted, l)
		m := list[(n+1)%len(list)]
		sum, _ := lattice.Sum(l, m)
		wantLattice(t, "Plus", accepted.Plus(exact.Of(m)), sum)
		triple, _ := lattice.Scale(l, api.Frac{Num: 3, Den: 1})
		wantLattice(t, "By", accepted.By(3), triple)
		part, _ := lattice.Scale(l, api.Frac{Num: 1, Den: 5})
		wantLattice(t, "Over", accepted.Over(5), part)
		wantLattice(t, "By and Over", accepted.By(6).Over(6), l)
		index, _ := lattice.Index(l, m)
		volume, e := exact.Of(m).Volume().Over(accepted.Volume()).Frac()
		want(t, "Volume", e, api.OK)
		want(t, "Volume", volume, index)
		for _, x := range [][4]int{{1, 2, 3, 4}, {5, 0, 0, 0}, {0, 7, 7, 14}, {0, 0, 0, 0}} {
			is, _ := lattice.Contains(l, api.Vector{Coords: x[:], Den: 2})
			want(t, "Holds", accepted.Holds(exact.RowOf(x), integer.Of(2)), is)
		}
		a := api.Algebra{A: n%3 + 1, B: -n - 1}
		want(t, "Dual", accepted.Dual(a).Dual(a).Equals(accepted), true)
		want(t, "Conjugate", accepted.Conjugate().Conjugate().Equals(accepted), true)
		want(t, "Equals", accepted.Equals(exact.Of(m)), exact.Compare(normal(l), normal(m)) == 0)
		want(t, "Equals over another denominator", accepted.Equals(accepted.Over(2)), false)
	}
}

func TestLatticesOfLessRank(t *testing.T) {
	line := exact.Span(integer.Of(2), exact.RowOf([4]int{0, 3, 0, 6}))
	for _, x := range []struct {
		row [4]int
		is  bool
	}{{[4]int{0, 3, 0, 6}, true}, {[4]int{0, -9, 0, -18}, true}, {[4]int{}, true}, {[4]int{1, 3, 0, 6}, false}, {[4]int{0, 3, 1, 6}, false}, {[4]int{0, 3, 0, 7}, false}, {[4]int{0, 1, 0, 2}, false}} {
		want(t, "Holds", line.Holds(exact.RowOf(x.row), integer.Of(2)), x.is)
	}
	want(t, "Determinant", exact.IsZero(line.Determinant()), true)
}

func normal(l api.Lattice) api.Lattice {
	n, _ := lattice.Normal(l)
	return n
}

func TestCompare(t *testing.T) {
	var list []api.Lattice
	for _, l := range lattices(t) {
		list = append(list, normal(l))
	}
	slices.SortFunc(list, exact.Compare)
	for n, m := range list[1:] {
		l := list[n]
		flat := func(l api.Lattice) []int { return append([]int{l.Den}, slices.Concat(l.Rows...)...) }
		want(t, "Compare", exact.Compare(l, m), slices.Compare(flat(l), flat(m)))
		want(t, "Compare the other way", exact.Compare(m, l), -exact.Compare(l, m))
	}
}

func TestErrorsOfAccept(t *testing.T) {
	rows := [][]int{{1, 0, 0, 0}, {0, 1, 0, 0}, {0, 0, 1, 0}, {0, 0, 0, 1}}
	for _, x := range []struct {
		l api.Lattice
		e api.Errno
	}{
		{api.Lattice{}, api.ErrRange}, {api.Lattice{Dim: 4, Den: 1, Rows: rows[:3]}, api.ErrShape}, {api.Lattice{Dim: 3, Den: 1}, api.ErrShape}, {api.Lattice{Dim: 4, Den: api.MaxCoord + 1, Rows: rows[1:]}, api.ErrShape},
		{api.Lattice{Dim: 4, Den: api.MaxCoord, Rows: rows}, api.OK}, {api.Lattice{Dim: 4, Den: api.MaxCoord + 1, Rows: rows}, api.ErrLarge}, {api.Lattice{Dim: 4, Den: 1, Rows: append([][]int{{0, 0, 0, api.MaxCoord + 1}}, rows[:3]...)}, api.ErrLarge},
		{api.Lattice{Dim: 4, Den: 1, Rows: append([][]int{{0, 0, 0, -api.MaxCoord}}, rows[:3]...)}, api.OK},
	} {
		l, e := exact.Accept(x.l)
		want(t, "Accept", e, x.e)
		if e != api.OK {
			want(t, "Accept beside an error", l.Equals(exact.Lattice{}), true)
		}
	}
}

func TestFractions(t *testing.T) {
	numbers := []int{1, 2, 3, 10, 12, 35, 1 << 40, math.MaxInt}
	for _, p := range numbers {
		for _, q := range numbers {
			f := exact.Quotient(integer.Of(p), integer.Of(q))
			r := big.NewRat(int64(p), int64(q))
			frac, e := f.Frac()
			want(t, "Frac", e, api.OK)
			want(t, "Frac", frac, api.Frac{Num: int(r.Num().Int64()), Den: int(r.Denom().Int64())})
			for _, n := range numbers {
				g, s := exact.Whole(n), big.NewRat(int64(n), 1)
				wantFraction(t, "Times", f.Times(g), new(big.Rat).Mul(r, s))
				wantFraction(t, "Over", f.Over(g), new(big.Rat).Quo(r, s))
				want(t, "Cmp", f.Cmp(g), r.Cmp(s))
			}
		}
	}
	wantFraction(t, "a negative fraction", exact.Quotient(integer.Of(-6), integer.Of(4)), big.NewRat(-3, 2))
	wantFraction(t, "0", exact.Quotient(integer.Of(0), integer.Of(4)), new(big.Rat))
}

// wantFraction compares a fraction with one of any size.
func wantFraction(t *testing.T, what string, f exact.Fraction, r *big.Rat) {
	t.Helper()
	want(t, what, integer.Format(f.Num), r.Num().String())
	want(t, what, integer.Format(f.Den), r.Denom().String())
	_, e := f.Frac()
	want(t, what+" as a fraction of ints", e == api.OK, r.Num().IsInt64() && r.Denom().IsInt64())
}
