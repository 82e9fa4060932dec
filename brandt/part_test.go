package brandt_test

import (
	"fmt"
	"testing"

	"fourfold/api"
	"fourfold/brandt"
	"fourfold/ideal"
)

// The tests of this file are those of P8.6.

// ascent is the difference of x and the row sum.
func ascent(disc, n int) poly {
	return polyOf(-sumOf(n, func(d int) bool { return common(d, disc) == 1 }), 1)
}

func TestCuspidal(t *testing.T) {
	for _, g := range genera() {
		c := classes(t, g.a, g.level)
		for n := 1; n <= api.MaxNorm; n += 1 + n%3 {
			if common(n, g.level) > 1 {
				continue
			}
			m := made[[][]int](t)(brandt.Matrix(g.a, c, n))
			wanted, rest := leverrier(m).divided(ascent(c.Disc, n))
			want(t, "the rest", len(rest), 0)
			p, e := brandt.Cuspidal(g.a, c, n)
			wantResult(t, fmt.Sprint("Cuspidal ", g, n), p, e, wanted.ints(), api.OK)
		}
	}
}

// These are the numbers of points of elliptic curves modulo primes q, as q + 1 less them: from tables.
func TestPartsOfCurves(t *testing.T) {
	for _, x := range []struct {
		a           api.Algebra
		level, from int
		primes      []int
		values      []int
	}{
		{eleven, 1, 1, []int{2, 3, 5, 7, 11, 13, 17, 19, 23, 29, 31, 37, 41, 43, 47}, []int{-2, -1, 1, -2, 1, 4, -2, 0, -1, 0, 7, 3, -8, -6, 8}},
		{hamilton, 7, 1, []int{3, 5, 11, 13, 17, 19}, []int{-2, 0, 0, -4, 6, 2}},
		{api.Algebra{A: -1, B: -7}, 2, 1, []int{3, 5, 11, 13, 17, 19}, []int{-2, 0, 0, -4, 6, 2}},
		{api.Algebra{A: -1, B: -3}, 5, 1, []int{2, 7, 11, 13, 17}, []int{-1, 0, -4, -2, 2}},
		{eleven, 3, 1, []int{2, 5, 7, 13, 17}, []int{1, -2, 4, -2, -2}},
	} {
		big, small := classes(t, x.a, x.level), classes(t, x.a, x.from)
		for i, q := range x.primes {
			wanted := polyOf(-x.values[i], 1).ints()
			what := fmt.Sprint(x.a, " ", x.level, " ", q)
			if x.level == 1 {
				p, e := brandt.Cuspidal(x.a, big, q)
				wantResult(t, "Cuspidal "+what, p, e, wanted, api.OK)
				continue
			}
			p, e := brandt.New(x.a, big, small, q)
			wantResult(t, "New "+what, p, e, wanted, api.OK)
		}
	}
	p, e := brandt.Cuspidal(api.Algebra{A: -1, B: -23}, classes(t, api.Algebra{A: -1, B: -23}, 1), 2)
	wantResult(t, "Cuspidal for 23", p, e, polyOf(-1, 1, 1).ints(), api.OK)
	p, e = brandt.Cuspidal(api.Algebra{A: -2, B: -37}, classes(t, api.Algebra{A: -2, B: -37}, 1), 3)
	wantResult(t, "Cuspidal for 37", p, e, polyOf(-3, 2, 1).ints(), api.OK)
	p, e = brandt.Cuspidal(hamilton, classes(t, hamilton, 1), 3)
	wantResult(t, "Cuspidal of Hurwitz", p, e, polyOf(1).ints(), api.OK)
	p, e = brandt.New(eleven, classes(t, eleven, 2), classes(t, eleven, 1), 3)
	wantResult(t, "New without new forms", p, e, polyOf(1).ints(), api.OK)
}

func TestNew(t *testing.T) {
	n := numbers(130)
	for _, x := range []struct {
		a          api.Algebra
		big, small int
	}{{eleven, 2, 1}, {eleven, 3, 1}, {eleven, 7, 1}, {eleven, 6, 2}, {eleven, 6, 3}, {hamilton, 15, 3}, {hamilton, 15, 5}, {hamilton, 33, 11}, {api.Algebra{A: -1, B: -23}, 2, 1}, {thirty, 7, 1}, {api.Algebra{A: -2, B: -37}, 3, 1}} {
		big, small := classes(t, x.a, x.big), classes(t, x.a, x.small)
		for _, k := range []int{1, 2, 4, 5, 7, 11, 22, 49} {
			if common(k, x.big) > 1 {
				continue
			}
			p := polyFrom(made[[]api.Int](t)(brandt.Cuspidal(x.a, big, k)))
			q := polyFrom(made[[]api.Int](t)(brandt.Cuspidal(x.a, small, k)))
			wanted, rest := p.divided(q.times(q))
			what := fmt.Sprint("New ", x, k)
			want(t, what+": the rest", len(rest), 0)
			result, e := brandt.New(x.a, big, small, k)
			wantResult(t, what, result, e, wanted.ints(), api.OK)
			result, e = brandt.New(x.a, n.shuffled(t, x.a, big), n.shuffled(t, x.a, small), k)
			wantResult(t, what, result, e, wanted.ints(), api.OK)
		}
	}
}

func TestErrorsOfNew(t *testing.T) {
	one, three, five, fifteen, seven := classes(t, hamilton, 1), classes(t, hamilton, 3), classes(t, hamilton, 5), classes(t, hamilton, 15), classes(t, hamilton, 7)
	bad := three
	bad.Units = []int{12, 12}
	other := classes(t, eleven, 1)
	for _, x := range []struct {
		a          api.Algebra
		big, small api.Classes
		n          int
		e          api.Errno
	}{
		{api.Algebra{}, three, one, 0, api.ErrZero}, {six, three, one, 0, api.ErrDefinite}, {hamilton, bad, api.Classes{}, 0, api.ErrShape}, {hamilton, three, api.Classes{}, 0, api.ErrRange}, {hamilton, three, bad, 0, api.ErrRange}, {hamilton, three, bad, 3, api.ErrPrime}, {hamilton, three, bad, 2, api.ErrShape}, {hamilton, bad, three, 2, api.ErrShape},
		{hamilton, three, api.Classes{}, 3, api.ErrPrime}, {hamilton, three, one, 0, api.ErrRange}, {hamilton, three, one, 51, api.ErrRange}, {hamilton, three, one, 9, api.ErrPrime}, {hamilton, one, three, 6, api.ErrPrime}, {hamilton, seven, three, 3, api.ErrPrime}, {hamilton, three, seven, 7, api.ErrPrime},
		{hamilton, one, one, 3, api.ErrShape}, {hamilton, three, three, 2, api.ErrShape}, {hamilton, one, three, 2, api.ErrShape}, {hamilton, fifteen, one, 2, api.ErrShape}, {hamilton, seven, three, 2, api.ErrShape}, {hamilton, three, fifteen, 2, api.ErrShape}, {hamilton, three, five, 2, api.ErrShape}, {hamilton, three, one, 2, api.OK}, {hamilton, fifteen, five, 2, api.OK},
		{hamilton, three, other, 2, ideal.CheckClasses(hamilton, other)}, {eleven, three, other, 2, ideal.CheckClasses(eleven, three)},
	} {
		p, e := brandt.New(x.a, x.big, x.small, x.n)
		what := fmt.Sprint("New ", x.a, x.big.Level, x.small.Level, x.n)
		if x.e == api.OK {
			want(t, what, e, api.OK)
			continue
		}
		wantError(t, what, x.e, p, e)
	}
}
