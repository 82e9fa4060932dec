package ideal_test

import (
	"fmt"
	"math/big"
	"testing"

	"fourfold/algebra"
	"fourfold/api"
	"fourfold/ideal"
	"fourfold/order"
)

// The tests of this file are those of P5.1 and P5.2.

// wide are lattices with great numbers, many of whose results are too large.
func (n *numbers) wide() api.Lattice {
	for {
		most := []int{1000, 1000000}[n.between(0, 1)]
		var list grid
		for c := range 4 {
			q := n.quat(most, 1)
			q.Den = []int{1, 7, 1000, 999983}[n.between(0, 3)]
			list = append(list, slowOf(q), unit(c).scaled(rat(n.between(1, most), n.between(1, 3))))
		}
		if l, fits := list.small(); fits {
			return l
		}
	}
}

// samples calls a function for many algebras and lattices, and counts the errors of its results.
func samples(t *testing.T, seed numbers, rounds int, check func(a api.Algebra, l api.Lattice, g grid) api.Errno) {
	t.Helper()
	seen := map[api.Errno]int{}
	for round := range rounds {
		a := seed.algebra([]int{7, 20, api.MaxParam}[round%3])
		l := seed.lattice(a)
		if round%5 == 0 {
			l = seed.wide()
		}
		seen[check(a, seed.rewritten(l), slowRows(l))]++
	}
	if seen[api.OK] < rounds/2 {
		t.Errorf("results with these errors: %v", seen)
	}
}

func TestLeftAndRightOrders(t *testing.T) {
	samples(t, 1, 300, func(a api.Algebra, l api.Lattice, g grid) api.Errno {
		left, e := ideal.LeftOrder(a, l)
		wanted, f := leftOrder(a, g).result()
		wantResult(t, fmt.Sprint("LeftOrder ", a, l), left, e, wanted, f)
		right, f := ideal.RightOrder(a, l)
		wanted, h := rightOrder(a, g).result()
		wantResult(t, fmt.Sprint("RightOrder ", a, l), right, f, wanted, h)
		return max(e, f)
	})
}

func TestConjugate(t *testing.T) {
	samples(t, 2, 200, func(a api.Algebra, l api.Lattice, g grid) api.Errno {
		var conjugates grid
		for _, x := range g {
			conjugates = append(conjugates, x.conjugate())
		}
		conjugate, e := ideal.Conjugate(a, l)
		wanted, f := conjugates.result()
		wantResult(t, fmt.Sprint("Conjugate ", a, l), conjugate, e, wanted, f)
		return e
	})
}

func TestNorm(t *testing.T) {
	samples(t, 3, 300, func(a api.Algebra, l api.Lattice, g grid) api.Errno {
		norm, e := ideal.Norm(a, l)
		wanted, f := fraction(g.norm(a))
		wantResult(t, fmt.Sprint("Norm ", a, l), norm, e, wanted, f)
		return e
	})
	norm, e := ideal.Norm(api.Algebra{A: 1000, B: -1000}, of(1, [4]int{coord, 0, 0, 0}, [4]int{0, coord, 0, 0}, [4]int{0, 0, coord, 0}, [4]int{0, 0, 0, coord}))
	wantResult(t, "Norm with great numbers", norm, e, api.Frac{Num: coord * coord, Den: 1}, api.OK)
	norm, e = ideal.Norm(hamilton, of(coord, [4]int{1, 0, 0, 0}, [4]int{0, 1, 0, 0}, [4]int{0, 0, 1, 0}, [4]int{0, 0, 0, 1}))
	wantResult(t, "Norm with great denominators", norm, e, api.Frac{Num: 1, Den: coord * coord}, api.OK)
}

func TestInverse(t *testing.T) {
	inverses, others := 0, 0
	samples(t, 4, 300, func(a api.Algebra, l api.Lattice, g grid) api.Errno {
		inverse := g.inverse(a)
		wanted, f := inverse.result()
		if !grid(products(a, g, inverse)).isSame(leftOrder(a, g)) {
			wanted, f = api.Lattice{}, api.ErrIdeal
		}
		result, e := ideal.Inverse(a, l)
		wantResult(t, fmt.Sprint("Inverse ", a, l), result, e, wanted, f)
		switch e {
		case api.OK:
			inverses++
		case api.ErrIdeal:
			others++
		}
		return api.OK
	})
	if inverses < 100 || others < 50 {
		t.Errorf("%d inverses, and %d lattices without one", inverses, others)
	}
	l := of(1, [4]int{1, 0, 0, 0}, [4]int{0, 2, 0, 0}, [4]int{0, 0, 4, 0}, [4]int{0, 0, 0, 3})
	inverse, e := ideal.Inverse(hamilton, l)
	wantError(t, "Inverse of a lattice that is not invertible", api.ErrIdeal, inverse, e)
	// It is not invertible, and the inverse would be too large.
	l = of(1, [4]int{1, 0, 0, 0}, [4]int{0, 999983, 0, 0}, [4]int{0, 0, 999979, 0}, [4]int{0, 0, 0, 999961})
	inverse, e = ideal.Inverse(hamilton, l)
	wantError(t, "Inverse of a lattice that is not invertible, with great numbers", api.ErrIdeal, inverse, e)
}

func TestProduct(t *testing.T) {
	n := numbers(5)
	samples(t, 6, 300, func(a api.Algebra, l api.Lattice, g grid) api.Errno {
		m := n.lattice(a)
		product, e := ideal.Product(a, l, n.rewritten(m))
		wanted, f := grid(products(a, g, slowRows(m))).result()
		wantResult(t, fmt.Sprint("Product ", a, l, m), product, e, wanted, f)
		return e
	})
}

func TestTimes(t *testing.T) {
	n := numbers(7)
	zeros := 0
	samples(t, 8, 400, func(a api.Algebra, l api.Lattice, g grid) api.Errno {
		x := n.quat([]int{2, 9, 500}[n.between(0, 2)], 5)
		if zero, e := algebra.Divisor(a); e == api.OK && n.between(0, 1) == 0 {
			x = zero
		}
		wanted, f := api.Lattice{}, api.ErrZero
		if slowOf(x).norm(a).Sign() != 0 {
			wanted, f = grid(products(a, []slow{slowOf(x)}, g)).result()
		}
		result, e := ideal.Times(a, x, l)
		wantResult(t, fmt.Sprint("Times ", a, x, l), result, e, wanted, f)
		if e == api.ErrZero {
			zeros++
			return api.OK
		}
		return e
	})
	if zeros < 20 {
		t.Errorf("only %d elements of norm 0", zeros)
	}
	for _, x := range []struct {
		a api.Algebra
		q api.Quat
		l api.Lattice
		e api.Errno
	}{
		{hamilton, api.Quat{}, lipschitz, api.ErrForm}, {hamilton, api.Quat{W: coord + 1, Den: 1}, api.Lattice{}, api.ErrForm}, {hamilton, api.Quat{Den: 3}, lipschitz, api.ErrZero}, {hamilton, api.Quat{Den: 1}, api.Lattice{}, api.ErrRange},
		{matrices, api.Quat{W: 1, X: 1, Den: 1}, hurwitz, api.ErrZero}, {matrices, api.Quat{Y: 1, Z: 1, Den: 7}, hurwitz, api.ErrZero}, {matrices, api.Quat{Y: 1, Z: 1, Den: 7}, of(1, [4]int{coord + 1, 0, 0, 0}, [4]int{0, 1, 0, 0}, [4]int{0, 0, 1, 0}, [4]int{0, 0, 0, 1}), api.ErrLarge},
		{hamilton, api.Quat{W: coord, X: coord, Den: 1}, hurwitz, api.ErrLarge}, {hamilton, api.Quat{W: 1, Den: coord}, hurwitz, api.ErrLarge}, {api.Algebra{A: 0, B: 1}, api.Quat{}, lipschitz, api.ErrZero},
	} {
		l, e := ideal.Times(x.a, x.q, x.l)
		wantError(t, fmt.Sprint("Times ", x.a, x.q, x.l), x.e, l, e)
	}
	l, e := ideal.Times(hamilton, api.Quat{W: coord, Den: 1}, lipschitz)
	wantResult(t, "Times with the greatest numbers", l, e, of(1, [4]int{coord, 0, 0, 0}, [4]int{0, coord, 0, 0}, [4]int{0, 0, coord, 0}, [4]int{0, 0, 0, coord}), api.OK)
}

func TestConnecting(t *testing.T) {
	n := numbers(9)
	seen := map[api.Errno]int{}
	for range 200 {
		a := n.algebra(12)
		o, p := n.order(a), n.order(a)
		x := slowOf(n.quat(3, 1))
		if x.norm(a).Sign() != 0 && n.between(0, 2) > 0 {
			p = grid(products(a, products(a, []slow{x.conjugate().scaled(new(big.Rat).Inv(x.norm(a)))}, slowRows(p)), []slow{x})).lattice()
		}
		if order.Check(a, p) != api.OK {
			continue
		}
		product := grid(products(a, slowRows(o), slowRows(p)))
		wanted, f := product.result()
		if !leftOrder(a, product).isSame(slowRows(o)) || !rightOrder(a, product).isSame(slowRows(p)) {
			wanted, f = api.Lattice{}, api.ErrOrder
		}
		result, e := ideal.Connecting(a, n.rewritten(o), n.rewritten(p))
		wantResult(t, fmt.Sprint("Connecting ", a, o, p), result, e, wanted, f)
		seen[e]++
	}
	if seen[api.OK] < 50 || seen[api.ErrOrder] < 20 {
		t.Errorf("results with these errors: %v", seen)
	}
	great := of(1, [4]int{1, 0, 0, 0}, [4]int{0, 629, 0, 0}, [4]int{0, 0, 629, 0}, [4]int{0, 0, 0, 629})
	for _, x := range []struct {
		o, p api.Lattice
		e    api.Errno
	}{
		{lipschitz, hurwitz, api.ErrOrder}, {hurwitz, lipschitz, api.ErrOrder}, {great, lipschitz, api.ErrOrder}, {api.Lattice{}, great, api.ErrRange}, {of(2, lipschitzRows()...), api.Lattice{}, api.ErrOrder}, {hurwitz, of(2, lipschitzRows()...), api.ErrOrder}, {hurwitz, api.Lattice{Dim: 4, Den: 1}, api.ErrShape},
	} {
		l, e := ideal.Connecting(hamilton, x.o, x.p)
		wantError(t, fmt.Sprint("Connecting ", x.o, x.p), x.e, l, e)
	}
}

// lipschitzRows are the rows of the unit matrix: over 2 they span no order.
func lipschitzRows() [][4]int {
	return [][4]int{{1, 0, 0, 0}, {0, 1, 0, 0}, {0, 0, 1, 0}, {0, 0, 0, 1}}
}

func TestCheck(t *testing.T) {
	n := numbers(10)
	ideals := 0
	samples(t, 11, 300, func(a api.Algebra, l api.Lattice, g grid) api.Errno {
		o := n.order(a)
		wanted := api.ErrIdeal
		if rightOrder(a, g).isSame(slowRows(o)) {
			wanted = api.OK
			ideals++
		}
		want(t, fmt.Sprint("Check ", a, o, l), ideal.Check(a, n.rewritten(o), l), wanted)
		return api.OK
	})
	if ideals < 50 || ideals > 250 {
		t.Errorf("%d ideals", ideals)
	}
	half := of(6, [4]int{1, 1, 1, 1}, [4]int{0, 2, 0, 0}, [4]int{0, 0, 2, 0}, [4]int{0, 0, 0, 2})
	for _, x := range []struct {
		a    api.Algebra
		o, l api.Lattice
		e    api.Errno
	}{
		{hamilton, hurwitz, half, api.OK}, {hamilton, lipschitz, half, api.ErrIdeal}, {hamilton, lipschitz, hurwitz, api.ErrIdeal}, {hamilton, hurwitz, lipschitz, api.ErrIdeal}, {hamilton, half, half, api.ErrOrder},
		{hamilton, half, api.Lattice{}, api.ErrOrder}, {hamilton, hurwitz, api.Lattice{}, api.ErrRange}, {hamilton, hurwitz, api.Lattice{Dim: 4, Den: 1}, api.ErrShape}, {hamilton, api.Lattice{Dim: 4, Den: 1}, half, api.ErrShape},
		{hamilton, hurwitz, of(coord, [4]int{coord + 1, 0, 0, 0}, [4]int{0, 1, 0, 0}, [4]int{0, 0, 1, 0}, [4]int{0, 0, 0, 1}), api.ErrLarge}, {api.Algebra{A: 1}, half, api.Lattice{}, api.ErrZero},
	} {
		want(t, fmt.Sprint("Check ", x.a, x.o, x.l), ideal.Check(x.a, x.o, x.l), x.e)
	}
}

func TestIndex(t *testing.T) {
	n := numbers(12)
	samples(t, 13, 300, func(a api.Algebra, l api.Lattice, g grid) api.Errno {
		m := n.lattice(a)
		if n.between(0, 1) == 0 {
			m = n.wide()
		}
		index, e := ideal.Index(a, l, n.rewritten(m))
		wanted, f := fraction(new(big.Rat).Quo(slowRows(m).canonical().volume(), g.canonical().volume()))
		wantResult(t, fmt.Sprint("Index ", a, l, m), index, e, wanted, f)
		return e
	})
	tiny := of(coord, lipschitzRows()...)
	huge := of(1, [4]int{coord, 0, 0, 0}, [4]int{0, coord, 0, 0}, [4]int{0, 0, coord, 0}, [4]int{0, 0, 0, coord})
	for _, pair := range [][2]api.Lattice{{lipschitz, huge}, {tiny, lipschitz}, {tiny, huge}, {huge, tiny}} {
		index, e := ideal.Index(hamilton, pair[0], pair[1])
		wantError(t, fmt.Sprint("Index ", pair), api.ErrLarge, index, e)
	}
}

func TestExamplesOfIdeals(t *testing.T) {
	norm, e := ideal.Norm(hamilton, hurwitz)
	wantResult(t, "Norm", norm, e, api.Frac{Num: 1, Den: 1}, api.OK)
	for name, f := range map[string]func(a api.Algebra, l api.Lattice) (api.Lattice, api.Errno){"LeftOrder": ideal.LeftOrder, "RightOrder": ideal.RightOrder, "Inverse": ideal.Inverse, "Conjugate": ideal.Conjugate} {
		l, e := f(hamilton, hurwitz)
		wantResult(t, name, l, e, hurwitz, api.OK)
	}
	x := api.Quat{W: 1, X: 1, Den: 1}
	l, e := ideal.Times(hamilton, x, hurwitz)
	turned := grid(products(hamilton, slowRows(hurwitz), []slow{slowOf(x)})).lattice()
	wantResult(t, "(1 + i) H", l, e, turned, api.OK)
	norm, e = ideal.Norm(hamilton, l)
	wantResult(t, "the norm of (1 + i) H", norm, e, api.Frac{Num: 2, Den: 1}, api.OK)
	index, e := ideal.Index(hamilton, hurwitz, l)
	wantResult(t, "the index of (1 + i) H", index, e, api.Frac{Num: 4, Den: 1}, api.OK)
	index, e = ideal.Index(hamilton, l, hurwitz)
	wantResult(t, "the index the other way", index, e, api.Frac{Num: 1, Den: 4}, api.OK)
	// A product of lattices whose orders do not fit.
	l, e = ideal.Product(hamilton, lipschitz, hurwitz)
	wantResult(t, "a product of orders", l, e, hurwitz, api.OK)
}
