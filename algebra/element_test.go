package algebra_test

import (
	"fmt"
	"testing"

	"fourfold/algebra"
	"fourfold/api"
)

// The tests of this file are those of P3.2.

var (
	one = api.Quat{W: 1, Den: 1}
	i   = api.Quat{X: 1, Den: 1}
	j   = api.Quat{Y: 1, Den: 1}
	k   = api.Quat{Z: 1, Den: 1}
)

func TestProductsOfTheBasis(t *testing.T) {
	for _, a := range []api.Algebra{hamilton, six, {A: 2, B: 5}, {A: -1000, B: 999}} {
		ab := a.A * a.B
		for _, x := range []struct {
			p, q, product api.Quat
		}{
			{one, one, one}, {one, i, i}, {j, one, j}, {one, k, k},
			{i, i, api.Quat{W: a.A, Den: 1}}, {j, j, api.Quat{W: a.B, Den: 1}}, {k, k, api.Quat{W: -ab, Den: 1}},
			{i, j, k}, {j, i, api.Quat{Z: -1, Den: 1}},
			{i, k, api.Quat{Y: a.A, Den: 1}}, {k, i, api.Quat{Y: -a.A, Den: 1}},
			{k, j, api.Quat{X: a.B, Den: 1}}, {j, k, api.Quat{X: -a.B, Den: 1}},
		} {
			q, e := algebra.Mul(a, x.p, x.q)
			wantResult(t, fmt.Sprint("Mul ", a, x.p, x.q), q, e, x.product, api.OK)
		}
	}
}

func TestExamplesOfProducts(t *testing.T) {
	q, e := algebra.Mul(hamilton, api.Quat{W: 1, X: 1, Den: 1}, api.Quat{W: 1, Y: 1, Den: 1})
	wantResult(t, "(1 + i)(1 + j)", q, e, api.Quat{W: 1, X: 1, Y: 1, Z: 1, Den: 1}, api.OK)
	q, e = algebra.Mul(six, api.Quat{X: 1, Y: 1, Den: 1}, api.Quat{X: 1, Y: 1, Den: 1})
	wantResult(t, "the square of i + j", q, e, api.Quat{W: 2, Den: 1}, api.OK)
	q, e = algebra.Mul(hamilton, api.Quat{W: 2, X: 2, Den: 4}, api.Quat{W: 6, X: -6, Den: 3})
	wantResult(t, "a product of elements that are not in lowest terms", q, e, api.Quat{W: 2, Den: 1}, api.OK)
	q, e = algebra.Mul(hamilton, api.Quat{Den: 9}, api.Quat{X: coord, Den: 7})
	wantResult(t, "0 times an element", q, e, api.Quat{Den: 1}, api.OK)
}

func TestSumsAndProducts(t *testing.T) {
	n := numbers(2)
	fit, not := 0, 0
	count := func(fits bool) {
		if fits {
			fit++
		} else {
			not++
		}
	}
	for range 5000 {
		a, p, q := n.algebra(), n.anyQuat(), n.anyQuat()
		if n.between(0, 3) == 0 {
			q.Den = p.Den // sums fit more often
		}
		r, e := algebra.Add(p, q)
		count(wantQuat(t, fmt.Sprint("Add ", p, q), r, e, slowOf(p).plus(slowOf(q))))
		r, e = algebra.Sub(p, q)
		count(wantQuat(t, fmt.Sprint("Sub ", p, q), r, e, slowOf(p).plus(slowOf(q).scaled(rat(-1, 1)))))
		r, e = algebra.Mul(a, p, q)
		count(wantQuat(t, fmt.Sprint("Mul ", a, p, q), r, e, slowOf(p).times(a, slowOf(q))))
		r, e = algebra.Conj(p)
		wantQuat(t, fmt.Sprint("Conj ", p), r, e, slowOf(p).conjugate())
	}
	if fit < 2000 || not < 2000 {
		t.Errorf("%d results that fit, %d that do not", fit, not)
	}
}

func TestSumsAtTheLimit(t *testing.T) {
	for _, x := range []struct {
		p, q, sum api.Quat
		e         api.Errno
	}{
		{api.Quat{W: coord - 1, Den: 1}, one, api.Quat{W: coord, Den: 1}, api.OK},
		{api.Quat{W: coord, Den: 1}, one, api.Quat{}, api.ErrLarge},
		{api.Quat{X: coord, Den: 1}, i, api.Quat{}, api.ErrLarge},
		{api.Quat{Y: coord, Den: 1}, j, api.Quat{}, api.ErrLarge},
		{api.Quat{Z: coord, Den: 1}, k, api.Quat{}, api.ErrLarge},
		{api.Quat{Z: -coord, Den: 1}, k, api.Quat{Z: 1 - coord, Den: 1}, api.OK},
		{api.Quat{W: 1, Den: 1000}, api.Quat{W: 1, Den: 1001}, api.Quat{}, api.ErrLarge}, // over 1001000
		{api.Quat{W: 1, Den: 999}, api.Quat{X: 1, Den: 1000}, api.Quat{W: 1000, X: 999, Den: 999000}, api.OK},
		{api.Quat{W: 1, Den: coord}, api.Quat{W: 1, Den: coord}, api.Quat{W: 1, Den: coord / 2}, api.OK},
		{api.Quat{W: coord, Den: coord}, api.Quat{X: coord, Den: coord - 1}, api.Quat{W: coord - 1, X: coord, Den: coord - 1}, api.OK},
		{api.Quat{W: coord, X: coord, Den: 2}, api.Quat{W: coord, X: coord, Den: 2}, api.Quat{W: coord, X: coord, Den: 1}, api.OK},
	} {
		q, e := algebra.Add(x.p, x.q)
		wantResult(t, fmt.Sprint("Add ", x.p, x.q), q, e, x.sum, x.e)
		minus := api.Quat{W: -x.q.W, X: -x.q.X, Y: -x.q.Y, Z: -x.q.Z, Den: x.q.Den}
		q, e = algebra.Sub(x.p, minus)
		wantResult(t, fmt.Sprint("Sub ", x.p, minus), q, e, x.sum, x.e)
	}
}

func TestProductsAtTheLimit(t *testing.T) {
	large := api.Algebra{A: -1000, B: -1000}
	thousand := api.Quat{X: 1000, Den: 1}
	q, e := algebra.Mul(hamilton, thousand, thousand)
	wantResult(t, "a product that just fits", q, e, api.Quat{W: -coord, Den: 1}, api.OK)
	_, e = algebra.Mul(hamilton, thousand, api.Quat{X: 1001, Den: 1})
	want(t, "a product that does not fit", e, api.ErrLarge)
	q, e = algebra.Mul(hamilton, api.Quat{X: 1, Den: 1000}, api.Quat{Y: 1, Den: 1000})
	wantResult(t, "a product whose denominator just fits", q, e, api.Quat{Z: 1, Den: coord}, api.OK)
	_, e = algebra.Mul(hamilton, api.Quat{X: 1, Den: 1000}, api.Quat{Y: 1, Den: 1001})
	want(t, "a product whose denominator does not fit", e, api.ErrLarge)
	top := api.Quat{W: coord, X: coord, Y: coord, Z: coord, Den: coord}
	q, e = algebra.Mul(large, top, top)
	wantQuat(t, "the square of 1 + i + j + k, not in lowest terms", q, e, slowOf(top).times(large, slowOf(top)))
	top.Den, top.W = 1, -coord
	_, e = algebra.Mul(large, top, top)
	want(t, "the greatest product", e, api.ErrLarge)
}

func TestScale(t *testing.T) {
	const most = 1000000000
	q := api.Quat{W: 2, X: -3, Y: 0, Z: 4, Den: 5}
	for _, x := range []struct {
		by api.Frac
		q  api.Quat
		e  api.Errno
	}{
		{api.Frac{Num: 1, Den: 1}, q, api.OK}, {api.Frac{Num: 5, Den: 1}, api.Quat{W: 2, X: -3, Z: 4, Den: 1}, api.OK},
		{api.Frac{Num: -10, Den: 4}, api.Quat{W: -2, X: 3, Z: -4, Den: 2}, api.OK}, {api.Frac{Num: 10, Den: -4}, api.Quat{W: -2, X: 3, Z: -4, Den: 2}, api.OK},
		{api.Frac{Num: -5, Den: -1}, api.Quat{W: 2, X: -3, Z: 4, Den: 1}, api.OK},
		{api.Frac{Num: 0, Den: 1}, api.Quat{Den: 1}, api.OK}, {api.Frac{Num: 0, Den: -most}, api.Quat{Den: 1}, api.OK},
		{api.Frac{Num: most, Den: most}, q, api.OK}, {api.Frac{Num: -most, Den: -most}, q, api.OK},
		{api.Frac{Num: most, Den: 1}, api.Quat{}, api.ErrLarge}, {api.Frac{Num: 1, Den: most}, api.Quat{}, api.ErrLarge}, {api.Frac{Num: 1, Den: coord}, api.Quat{}, api.ErrLarge},
		{api.Frac{}, api.Quat{}, api.ErrForm}, {api.Frac{Num: 1}, api.Quat{}, api.ErrForm},
		{api.Frac{Num: most + 1, Den: 1}, api.Quat{}, api.ErrForm}, {api.Frac{Num: -most - 1, Den: 1}, api.Quat{}, api.ErrForm},
		{api.Frac{Num: 1, Den: most + 1}, api.Quat{}, api.ErrForm}, {api.Frac{Num: 1, Den: -most - 1}, api.Quat{}, api.ErrForm},
		{api.Frac{Num: 2 * most, Den: 2 * most}, api.Quat{}, api.ErrForm}, {api.Frac{Num: least, Den: 1}, api.Quat{}, api.ErrForm}, {api.Frac{Num: 1, Den: least}, api.Quat{}, api.ErrForm},
	} {
		r, e := algebra.Scale(q, x.by)
		wantResult(t, fmt.Sprint("Scale ", q, x.by), r, e, x.q, x.e)
	}
	_, e := algebra.Scale(api.Quat{Den: 1}, api.Frac{Num: 1})
	want(t, "Scale of 0 by no fraction", e, api.ErrForm)
	n := numbers(3)
	for range 3000 {
		q, size := n.anyQuat(), []int{20, coord, most}[n.between(0, 2)]
		by := api.Frac{Num: n.between(-size, size), Den: n.between(1, size) * (1 - 2*n.between(0, 1))}
		r, e := algebra.Scale(q, by)
		wantQuat(t, fmt.Sprint("Scale ", q, by), r, e, slowOf(q).scaled(toRat(by)))
	}
}
