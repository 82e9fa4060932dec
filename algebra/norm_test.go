package algebra_test

import (
	"fmt"
	"math/big"
	"testing"

	"fourfold/algebra"
	"fourfold/api"
)

// The tests of this file are those of P3.3.

func TestExamplesOfNorms(t *testing.T) {
	for _, x := range []struct {
		a           api.Algebra
		q           api.Quat
		trace, norm api.Frac
	}{
		{hamilton, api.Quat{W: 1, X: 1, Y: 1, Z: 1, Den: 1}, api.Frac{Num: 2, Den: 1}, api.Frac{Num: 4, Den: 1}},
		{hamilton, api.Quat{W: 1, X: 1, Y: 1, Z: 1, Den: 2}, api.Frac{Num: 1, Den: 1}, api.Frac{Num: 1, Den: 1}},
		{six, api.Quat{X: 1, Y: 1, Den: 1}, api.Frac{Num: 0, Den: 1}, api.Frac{Num: -2, Den: 1}},
		{matrices, api.Quat{W: 3, X: 3, Den: 7}, api.Frac{Num: 6, Den: 7}, api.Frac{Num: 0, Den: 1}},
		{hamilton, api.Quat{Den: 5}, api.Frac{Num: 0, Den: 1}, api.Frac{Num: 0, Den: 1}},
		{api.Algebra{A: 1000, B: 1000}, api.Quat{Z: coord, Den: 1}, api.Frac{Num: 0, Den: 1}, api.Frac{Num: coord * coord * coord, Den: 1}},
		{api.Algebra{A: -1000, B: 1000}, api.Quat{W: 0, X: 0, Y: coord, Z: -coord, Den: coord}, api.Frac{Num: 0, Den: 1}, api.Frac{Num: -1001000, Den: 1}},
		{hamilton, api.Quat{W: coord - 1, X: 0, Den: coord}, api.Frac{Num: coord - 1, Den: coord / 2}, api.Frac{Num: (coord - 1) * (coord - 1), Den: coord * coord}},
	} {
		f, e := algebra.Trace(x.q)
		wantResult(t, fmt.Sprint("Trace ", x.q), f, e, x.trace, api.OK)
		f, e = algebra.Norm(x.a, x.q)
		wantResult(t, fmt.Sprint("Norm ", x.a, x.q), f, e, x.norm, api.OK)
	}
}

func TestTracesAndNorms(t *testing.T) {
	n := numbers(4)
	for range 5000 {
		a, q := n.algebra(), n.anyQuat()
		f, e := algebra.Trace(q)
		wantFrac(t, fmt.Sprint("Trace ", q), f, e, slowOf(q).plus(slowOf(q).conjugate())[0])
		f, e = algebra.Norm(a, q)
		wantFrac(t, fmt.Sprint("Norm ", a, q), f, e, slowOf(q).norm(a))
	}
}

// wantPolynomial checks the coefficients.
func wantPolynomial(t *testing.T, a api.Algebra, q api.Quat, wanted ...*big.Rat) {
	t.Helper()
	what := fmt.Sprint("Polynomial ", a, q)
	list, e := algebra.Polynomial(a, q)
	want(t, what+": coefficients", len(list), len(wanted))
	for i, f := range list[:min(len(list), len(wanted))] {
		wantFrac(t, fmt.Sprint(what, " at ", i), f, e, wanted[i])
	}
}

func TestPolynomial(t *testing.T) {
	wantPolynomial(t, hamilton, api.Quat{W: 1, X: 1, Y: 1, Z: 1, Den: 2}, rat(1, 1), rat(-1, 1), rat(1, 1))
	wantPolynomial(t, hamilton, api.Quat{W: -2, Den: 6}, rat(1, 3), rat(1, 1))
	wantPolynomial(t, hamilton, api.Quat{Den: 6}, rat(0, 1), rat(1, 1))
	wantPolynomial(t, matrices, api.Quat{W: coord, Den: 1}, rat(-coord, 1), rat(1, 1))
	wantPolynomial(t, matrices, api.Quat{W: 1, X: 1, Den: 1}, rat(0, 1), rat(-2, 1), rat(1, 1))
	for _, q := range []api.Quat{i, j, k} {
		wantPolynomial(t, six, q, slowOf(q).norm(six), rat(0, 1), rat(1, 1))
	}
	n := numbers(5)
	for range 3000 {
		a, q := n.algebra(), n.anyQuat()
		if n.between(0, 3) == 0 {
			q.X, q.Y, q.Z = 0, 0, 0
		}
		if q.X == 0 && q.Y == 0 && q.Z == 0 {
			wantPolynomial(t, a, q, rat(-q.W, q.Den), rat(1, 1))
		} else {
			wantPolynomial(t, a, q, slowOf(q).norm(a), rat(-2*q.W, q.Den), rat(1, 1))
		}
	}
}

func TestIntegral(t *testing.T) {
	for _, x := range []struct {
		a    api.Algebra
		q    api.Quat
		want bool
	}{
		{hamilton, one, true}, {hamilton, api.Quat{Den: 3}, true}, {hamilton, api.Quat{W: 1, X: 1, Y: 1, Z: 1, Den: 2}, true},
		{hamilton, api.Quat{W: 2, X: 4, Y: 6, Z: 8, Den: 2}, true},
		{hamilton, api.Quat{W: 1, X: 1, Den: 2}, false},               // norm 1/2
		{hamilton, api.Quat{W: 1, Den: 2}, false},                     // norm 1/4
		{hamilton, api.Quat{X: 3, Y: 4, Den: 5}, true},                // trace 0, norm 1
		{hamilton, api.Quat{W: 3, X: 4, Den: 5}, false},               // trace 6/5, norm 1
		{hamilton, api.Quat{X: 1, Y: 1, Den: 2}, false},               // trace 0, norm 1/2
		{api.Algebra{A: 5, B: 2}, api.Quat{W: 1, X: 1, Den: 2}, true}, // the golden ratio
		{api.Algebra{A: 4, B: 2}, api.Quat{X: 1, Den: 2}, true},
	} {
		is, e := algebra.Integral(x.a, x.q)
		wantResult(t, fmt.Sprint("Integral ", x.a, x.q), is, e, x.want, api.OK)
	}
	n := numbers(6)
	var seen [2][2]int
	for range 5000 {
		a, q := api.Algebra{A: n.between(1, 12), B: -n.between(1, 12)}, n.quat(12, 6)
		trace, norm := rat(2*q.W, q.Den).IsInt(), slowOf(q).norm(a).IsInt()
		is, e := algebra.Integral(a, q)
		wantResult(t, fmt.Sprint("Integral ", a, q), is, e, trace && norm, api.OK)
		place := func(so bool) int {
			if so {
				return 1
			}
			return 0
		}
		seen[place(trace)][place(norm)]++
	}
	for _, x := range seen {
		if x[0] < 50 || x[1] < 50 {
			t.Errorf("how often trace and norm are integers: %v", seen)
		}
	}
}
