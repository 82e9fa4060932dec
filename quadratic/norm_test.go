package quadratic_test

import (
	"fmt"
	"math/big"
	"testing"

	"fourfold/api"
	"fourfold/ideal"
	"fourfold/lattice"
	"fourfold/order"
	"fourfold/quadratic"
)

// The tests of this file are those of P6.6.

var (
	hamilton = api.Algebra{A: -1, B: -1}
	eleven   = api.Algebra{A: -1, B: -11}
)

// standard is the order with the basis 1, i, j, k, and hurwitz is the maximal one that contains it in Hamilton's algebra.
func standard() api.Lattice { return api.Lattice{Dim: 4, Rows: unit(4), Den: 1} }

func hurwitz() api.Lattice {
	return api.Lattice{Dim: 4, Rows: matrix{{1, 1, 1, 1}, {0, 2, 0, 0}, {0, 0, 2, 0}, {0, 0, 0, 2}}, Den: 2}
}

// ratio is a fraction of any size.
func ratio(num, den int) *big.Rat { return big.NewRat(int64(num), int64(den)) }

// trace is the trace of x times the conjugate of y, for rows over a denominator.
func trace(a api.Algebra, x, y []int, den int) *big.Rat {
	sum := new(big.Rat)
	for c, w := range []int{1, -a.A, -a.B, a.A * a.B} {
		term := new(big.Rat).Mul(ratio(x[c], den), ratio(y[c], den))
		sum.Add(sum, term.Mul(term, ratio(2*w, 1)))
	}
	return sum
}

// formOf is the form of the norms of the combinations of rows, divided by a fraction: ErrLarge if a number is too large.
func formOf(a api.Algebra, l api.Lattice, by *big.Rat) (api.Form, api.Errno) {
	f := api.Form{N: len(l.Rows)}
	for _, x := range l.Rows {
		var row []int
		for _, y := range l.Rows {
			g := new(big.Rat).Quo(trace(a, x, y, l.Den), by)
			if !g.IsInt() {
				panic("a trace that is no integer")
			}
			if g.Num().CmpAbs(big.NewInt(most)) > 0 {
				return api.Form{}, api.ErrLarge
			}
			row = append(row, int(g.Num().Int64()))
		}
		f.Gram = append(f.Gram, row)
	}
	return f, api.OK
}

// definite is a definite algebra with numbers up to long.
func (n *numbers) definite(long int) api.Algebra {
	return api.Algebra{A: -n.between(1, long), B: -n.between(1, long)}
}

// order is a standard, a maximal or an Eichler order.
func (n *numbers) order(a api.Algebra) api.Lattice {
	maximal, e := order.Maximal(a, standard())
	if e != api.OK || n.between(0, 3) == 0 {
		return standard()
	}
	if l, e := order.Eichler(a, maximal, n.between(1, 15)); e == api.OK {
		return l
	}
	return maximal
}

// quat is an element that is not 0.
func (n *numbers) quat(long int) api.Quat {
	return api.Quat{W: n.between(1, long), X: n.between(-long, long), Y: n.between(-long, long), Z: n.between(-long, long), Den: n.between(1, 3)}
}

// lattice is a lattice of rank 4: any rows, or one that has to do with an order.
func (n *numbers) lattice(a api.Algebra) api.Lattice {
	for {
		l := n.order(a)
		switch n.between(0, 3) {
		case 0:
			l = api.Lattice{Dim: 4, Den: n.between(1, 4)}
			for range n.between(4, 5) {
				long := one(n, 2, 2, 9, 300)
				l.Rows = append(l.Rows, []int{n.between(-long, long), n.between(-long, long), n.between(-long, long), n.between(-long, long)})
			}
		case 1:
			l, _ = ideal.Times(a, n.quat(3), l)
		case 2:
			if list, e := ideal.OfNorm(a, l, one(n, 2, 3, 5, 7)); e == api.OK {
				l = one(n, list...)
			}
		}
		if _, e := ideal.Norm(a, l); e == api.OK {
			return l
		}
	}
}

// rewritten is the same lattice with other rows and another denominator.
func (n *numbers) rewritten(l api.Lattice) api.Lattice {
	by := n.between(1, 3)
	m := api.Lattice{Dim: l.Dim, Rows: times(n.unimodular(len(l.Rows), 5), l.Rows), Den: by * l.Den}
	for _, row := range m.Rows {
		for c := range row {
			row[c] *= by
		}
	}
	m.Rows = append(m.Rows, make([]int, l.Dim))
	return m
}

// normal is the normal form of a lattice.
func normal(t *testing.T, l api.Lattice) api.Lattice {
	t.Helper()
	return made[api.Lattice](t)(lattice.Normal(l))
}

func TestNormForm(t *testing.T) {
	n := numbers(50)
	seen := map[api.Errno]int{}
	for round := range 500 {
		a := n.definite([]int{3, 12, 60, api.MaxParam}[round%4])
		l := n.lattice(a)
		norm := made[api.Frac](t)(ideal.Norm(a, l))
		wanted, e := formOf(a, normal(t, l), ratio(norm.Num, norm.Den))
		f, got := quadratic.NormForm(a, n.rewritten(l))
		wantResult(t, fmt.Sprint("NormForm ", a, l), f, got, wanted, e)
		if e == api.OK {
			want(t, "Check", quadratic.Check(f), api.OK)
		}
		seen[e]++
	}
	if seen[api.OK] < 150 || seen[api.ErrLarge] < 50 {
		t.Error("norm forms:", seen)
	}
}

// trace0 is the lattice of the elements of Z + 2 O with the trace 0, from the intersection with those whose coordinates have the same denominator.
func trace0(t *testing.T, o api.Lattice) api.Lattice {
	t.Helper()
	o = normal(t, o)
	both := api.Lattice{Dim: 4, Den: o.Den, Rows: matrix{{o.Den, 0, 0, 0}}}
	pure := api.Lattice{Dim: 4, Den: o.Den, Rows: unit(4)[1:]}
	for _, row := range o.Rows {
		both.Rows = append(both.Rows, []int{2 * row[0], 2 * row[1], 2 * row[2], 2 * row[3]})
	}
	return made[api.Lattice](t)(lattice.Meet(pure, both))
}

func TestTernary(t *testing.T) {
	n := numbers(51)
	seen := map[api.Errno]int{}
	for round := range 300 {
		a := n.definite([]int{3, 12, 60, api.MaxParam}[round%4])
		o := n.order(a)
		if moved, e := order.Conjugate(a, o, n.quat(3)); e == api.OK && n.between(0, 1) == 0 {
			o = moved
		}
		if order.Check(a, o) != api.OK {
			continue
		}
		wanted, e := formOf(a, trace0(t, o), ratio(1, 1))
		f, got := quadratic.Ternary(a, n.rewritten(o))
		wantResult(t, fmt.Sprint("Ternary ", a, o), f, got, wanted, e)
		seen[e]++
	}
	if seen[api.OK] < 100 || seen[api.ErrLarge] < 20 {
		t.Error("ternary forms:", seen)
	}
}

func TestExamplesOfNormForms(t *testing.T) {
	f, e := quadratic.NormForm(hamilton, hurwitz())
	wantResult(t, "NormForm", f, e, of([]int{2, 1, 1, 1}, []int{1, 2, 0, 0}, []int{1, 0, 2, 0}, []int{1, 0, 0, 2}), api.OK)
	f, e = quadratic.NormForm(hamilton, standard())
	wantResult(t, "NormForm", f, e, fourSquares(), api.OK)
	f, e = quadratic.NormForm(eleven, standard())
	wantResult(t, "NormForm", f, e, diagonal(1, 1, 11, 11), api.OK)
	f, e = quadratic.NormForm(hamilton, api.Lattice{Dim: 4, Rows: matrix{{2, 0, 0, 0}, {0, 2, 0, 0}, {0, 0, 2, 0}, {0, 0, 0, 4}}, Den: 7})
	wantResult(t, "NormForm of a scaled lattice", f, e, diagonal(1, 1, 1, 4), api.OK)
	f, e = quadratic.Ternary(hamilton, hurwitz())
	wantResult(t, "Ternary", f, e, of([]int{6, 4, 4}, []int{4, 8, 0}, []int{4, 0, 8}), api.OK)
	f, e = quadratic.Ternary(hamilton, standard())
	wantResult(t, "Ternary", f, e, diagonal(4, 4, 4), api.OK)
	f, e = quadratic.Ternary(eleven, standard())
	wantResult(t, "Ternary", f, e, diagonal(4, 44, 44), api.OK)
}

// scaled is the lattice of the multiples of 1, i, j, k by these numbers.
func scaled(list ...int) api.Lattice {
	l := standard()
	for i, n := range list {
		l.Rows[i][i] = n
	}
	return l
}

func TestEndsOfTheLimitOfNormForms(t *testing.T) {
	for _, x := range []struct {
		a api.Algebra
		l api.Lattice
		f api.Form
		e api.Errno
	}{
		{api.Algebra{A: -1, B: -500}, standard(), diagonal(1, 1, 500, 500), api.OK}, {api.Algebra{A: -500, B: -1}, standard(), diagonal(1, 500, 1, 500), api.OK}, {api.Algebra{A: -1, B: -501}, standard(), api.Form{}, api.ErrLarge}, {api.Algebra{A: -501, B: -1}, standard(), api.Form{}, api.ErrLarge}, {api.Algebra{A: -3, B: -167}, standard(), api.Form{}, api.ErrLarge}, {api.Algebra{A: -20, B: -25}, standard(), diagonal(1, 20, 25, 500), api.OK},
		{hamilton, scaled(coord, coord, coord, coord), fourSquares(), api.OK}, {hamilton, api.Lattice{Dim: 4, Rows: unit(4), Den: coord}, fourSquares(), api.OK}, {hamilton, scaled(1, 1, 1, coord), api.Form{}, api.ErrLarge}, {api.Algebra{A: -1000, B: -1000}, scaled(coord, coord, coord, coord), api.Form{}, api.ErrLarge}, {api.Algebra{A: -1000, B: -1000}, scaled(coord, 1000, 1000, 1000), api.Form{}, api.ErrLarge},
		{api.Algebra{A: -1000, B: -1000}, scaled(1000000, 40000, 40000, 1000), diagonal(5, 8, 8, 5), api.OK}, {api.Algebra{A: -100, B: -100}, scaled(1000000, 100000, 100000, 10000), fourSquares(), api.OK}, {api.Algebra{A: -1000, B: -1000}, scaled(100000, 1000, 1000, 100), diagonal(10, 1, 1, 10), api.OK},
	} {
		f, e := quadratic.NormForm(x.a, x.l)
		wantResult(t, fmt.Sprint("NormForm ", x.a, x.l), f, e, x.f, x.e)
	}
	for _, x := range []struct {
		a api.Algebra
		f api.Form
		e api.Errno
	}{{api.Algebra{A: -1, B: -125}, diagonal(4, 500, 500), api.OK}, {api.Algebra{A: -125, B: -1}, diagonal(500, 4, 500), api.OK}, {api.Algebra{A: -1, B: -126}, api.Form{}, api.ErrLarge}, {api.Algebra{A: -126, B: -1}, api.Form{}, api.ErrLarge}, {api.Algebra{A: -1000, B: -1000}, api.Form{}, api.ErrLarge}, {api.Algebra{A: -5, B: -25}, diagonal(20, 100, 500), api.OK}, {api.Algebra{A: -6, B: -21}, api.Form{}, api.ErrLarge}} {
		f, e := quadratic.Ternary(x.a, standard())
		wantResult(t, fmt.Sprint("Ternary ", x.a), f, e, x.f, x.e)
	}
}

func TestErrorsOfNormForms(t *testing.T) {
	six := api.Algebra{A: -1, B: 3}
	flat := api.Lattice{Dim: 4, Rows: unit(4)[1:], Den: 1}
	huge := scaled(coord+1, 1, 1, 1)
	for _, x := range []struct {
		a        api.Algebra
		l        api.Lattice
		norm, in api.Errno
	}{
		{api.Algebra{}, api.Lattice{}, api.ErrZero, api.ErrZero}, {api.Algebra{A: 1001, B: 1}, api.Lattice{}, api.ErrRange, api.ErrRange}, {hamilton, api.Lattice{}, api.ErrRange, api.ErrRange}, {six, api.Lattice{}, api.ErrRange, api.ErrRange}, {hamilton, flat, api.ErrShape, api.ErrShape}, {six, flat, api.ErrShape, api.ErrShape}, {hamilton, api.Lattice{Dim: 3, Rows: unit(3), Den: 1}, api.ErrShape, api.ErrShape}, {hamilton, api.Lattice{Dim: 5, Rows: unit(5), Den: 1}, api.ErrShape, api.ErrShape},
		{hamilton, huge, api.ErrLarge, api.ErrLarge}, {six, huge, api.ErrLarge, api.ErrLarge}, {six, standard(), api.ErrDefinite, api.ErrDefinite}, {api.Algebra{A: 1, B: 1}, standard(), api.ErrDefinite, api.ErrDefinite}, {api.Algebra{A: 3, B: -1}, standard(), api.ErrDefinite, api.ErrDefinite}, {api.Algebra{A: 1000, B: -1000}, standard(), api.ErrDefinite, api.ErrDefinite},
		{hamilton, scaled(2, 2, 2, 2), api.OK, api.ErrOrder}, {six, scaled(2, 2, 2, 2), api.ErrDefinite, api.ErrOrder}, {hamilton, api.Lattice{Dim: 4, Rows: unit(4), Den: 2}, api.OK, api.ErrOrder}, {api.Algebra{A: 999, B: -1000}, scaled(1, 1, 1, 2), api.ErrDefinite, api.ErrOrder}, {hamilton, scaled(1, 1000, 1000, 1000), api.ErrLarge, api.ErrLarge},
		{hamilton, scaled(1, 31623, 31623, 31623), api.ErrLarge, api.ErrLarge}, {six, scaled(1, 10000, 10000, 10000), api.ErrDefinite, api.ErrLarge},
	} {
		what := fmt.Sprint(x.a, x.l)
		if x.norm != api.OK {
			wantError(t, "NormForm "+what, x.norm, all(quadratic.NormForm(x.a, x.l))...)
		}
		wantError(t, "Ternary "+what, x.in, all(quadratic.Ternary(x.a, x.l))...)
	}
}
