package order_test

import (
	"fmt"
	"testing"

	"fourfold/algebra"
	"fourfold/api"
	"fourfold/order"
)

// The tests of this file are those of P4.5.

// isPower reports whether n is a power of p.
func isPower(n, p int) bool {
	for n%p == 0 {
		n /= p
	}
	return n == 1
}

// wantNormal checks that an order is one, and in normal form.
func wantNormal(t *testing.T, what string, a api.Algebra, l api.Lattice) {
	t.Helper()
	h := echelonOf(slowRows(l))
	normal, _ := h.small()
	if !h.isOrder(a) || !same(l, normal) {
		t.Errorf("%s: %v", what, l)
	}
}

// wantMaximalAt checks MaximalAt.
func wantMaximalAt(t *testing.T, a api.Algebra, l api.Lattice, p int) {
	t.Helper()
	what := fmt.Sprint("MaximalAt ", a, l, p)
	ofAlgebra, ofOrder := discriminants(t, a, l)
	larger, e := order.MaximalAt(a, l, p)
	if e != api.OK {
		t.Errorf("%s: error %d", what, e)
		return
	}
	wantNormal(t, what, a, larger)
	_, d := discriminants(t, a, larger)
	want(t, what+" contains the order", isPart(l, larger), true)
	want(t, what+" is maximal", d/ofAlgebra%p != 0, true)
	want(t, what+" has a power of p as index", ofOrder%d == 0 && isPower(ofOrder/d, p), true)
	is := made[bool](t)(order.IsMaximalAt(a, l, p))
	want(t, what+": IsMaximalAt", is, ofOrder == d)
	want(t, what+": IsMaximalAt of the result", made[bool](t)(order.IsMaximalAt(a, larger, p)), true)
}

// wantMaximal checks Maximal.
func wantMaximal(t *testing.T, a api.Algebra, l api.Lattice) {
	t.Helper()
	what := fmt.Sprint("Maximal ", a, l)
	larger, e := order.Maximal(a, l)
	if e != api.OK {
		t.Errorf("%s: error %d", what, e)
		return
	}
	wantNormal(t, what, a, larger)
	ofAlgebra, d := discriminants(t, a, larger)
	want(t, what+" contains the order", isPart(l, larger), true)
	want(t, what+": the discriminant", d, ofAlgebra)
	want(t, what+": IsMaximal", made[bool](t)(order.IsMaximal(a, larger)), true)
	_, ofOrder := discriminants(t, a, l)
	want(t, what+": IsMaximal of the order", made[bool](t)(order.IsMaximal(a, l)), ofOrder == d)
}

func TestMaximalOrders(t *testing.T) {
	n := numbers(11)
	for range 200 {
		a := n.algebra()
		l := n.order(t, a)
		wantMaximal(t, a, l)
		for _, p := range []int{2, 3, 5, 7} {
			wantMaximalAt(t, a, l, p)
		}
	}
}

func TestMaximalOrdersThatContainTheStandardOne(t *testing.T) {
	for a := -12; a <= 12; a++ {
		for b := -12; b <= 12; b++ {
			if a != 0 && b != 0 {
				wantMaximal(t, api.Algebra{A: a, B: b}, lipschitz)
			}
		}
	}
	for _, a := range []api.Algebra{{A: 1000, B: 1000}, {A: 1000, B: -1000}, {A: -1000, B: -1000}, {A: 997, B: 991}, {A: -997, B: 991}, {A: 997, B: -997}, {A: 900, B: 961}, {A: -512, B: -729}, {A: 625, B: -343}, {A: 512, B: 512}, {A: -720, B: 840}} {
		wantMaximal(t, a, lipschitz)
		for _, p := range []int{2, 3, 5, 7, 31, 991, 997, 999999937} {
			wantMaximalAt(t, a, lipschitz, p)
		}
	}
}

func TestMaximalOrdersAtGreatPrimes(t *testing.T) {
	for _, p := range []int{17, 1009, 31607, 99991, 499979} { // levels with one prime factor, with two
		wantMaximalAt(t, matrices, gamma(p), p)
		wantMaximal(t, matrices, gamma(p))
		turned, e := order.Conjugate(matrices, gamma(p), api.Quat{W: 1, X: 2, Y: -1, Z: 3, Den: 1})
		if e == api.OK {
			wantMaximal(t, matrices, turned)
		}
	}
	wantMaximal(t, matrices, gamma(701*709))
	wantMaximal(t, matrices, gamma(701*701))
	wantMaximal(t, matrices, gamma(1<<18))
	wantMaximal(t, matrices, gamma(59049))
	wantMaximal(t, matrices, thick(997))
	wantMaximal(t, matrices, thick(1000))
	wantMaximal(t, matrices, thick(512))
	wantMaximal(t, hamilton, multiples(512))
	wantMaximal(t, hamilton, multiples(613))
	wantMaximal(t, api.Algebra{A: -1, B: -19}, multiples(200))
	// -1 is a square modulo 613: i and j have the same roots, which are not those of conjugates of theirs.
	wantMaximal(t, api.Algebra{A: -613, B: -1}, lipschitz)
	wantMaximal(t, api.Algebra{A: -613, B: 613}, lipschitz)
}

func TestMaximalOrdersThatAreTooLarge(t *testing.T) {
	// The order has the denominator 1. At each prime other than 2 there is a divisor of zero, k and a multiple of i or j, to be divided by the prime; 2 is ramified.
	a := api.Algebra{A: -805, B: -769}
	l, e := order.Maximal(a, lipschitz)
	wantError(t, "Maximal", api.ErrLarge, l, e)
	for _, p := range []int{2, 5, 769} {
		wantMaximalAt(t, a, lipschitz, p)
	}
	// The only larger order has twice the denominator and twice the greatest number, which is 805^2.
	turned := made[api.Lattice](t)(order.Conjugate(hamilton, lipschitz, api.Quat{W: 20, X: 15, Y: 12, Z: 6, Den: 1}))
	want(t, "the greatest number", turned.Rows[3][3], 805*805)
	l, e = order.Maximal(hamilton, turned)
	wantError(t, "Maximal", api.ErrLarge, l, e)
	l, e = order.MaximalAt(hamilton, turned, 2)
	wantError(t, "MaximalAt", api.ErrLarge, l, e)
	l, e = order.MaximalAt(hamilton, turned, 3)
	wantResult(t, "MaximalAt where the order is maximal", l, e, turned, api.OK)
}

func TestPrimesOfMaximalOrders(t *testing.T) {
	for _, p := range notPrimes {
		l, e := order.MaximalAt(hamilton, lipschitz, p)
		wantError(t, fmt.Sprint("MaximalAt ", p), api.ErrPrime, l, e)
	}
	l, e := order.MaximalAt(hamilton, lipschitz, 2)
	wantResult(t, "MaximalAt", l, e, hurwitz, api.OK)
	l, e = order.MaximalAt(hamilton, of(3, [4]int{3, 0, 0, 0}, [4]int{0, 3, 0, 0}, [4]int{0, 0, 0, 3}, [4]int{0, 0, 3, 3}), 3)
	wantResult(t, "MaximalAt", l, e, lipschitz, api.OK)
	l, e = order.Maximal(hamilton, lipschitz)
	wantResult(t, "Maximal", l, e, hurwitz, api.OK)
}

func TestLevel(t *testing.T) {
	for _, x := range []struct {
		a api.Algebra
		l api.Lattice
		n int
		e api.Errno
	}{
		{hamilton, hurwitz, 1, api.OK}, {hamilton, lipschitz, 0, api.ErrNone}, {matrices, gamma(1), 1, api.OK}, {matrices, gamma(2), 2, api.OK}, {matrices, gamma(4), 0, api.ErrNone}, {matrices, gamma(30030), 30030, api.OK}, {matrices, gamma(45), 0, api.ErrNone}, {matrices, gamma(499979), 499979, api.OK},
		{six, hurwitz, 1, api.OK}, {six, lipschitz, 0, api.ErrNone}, {api.Algebra{A: 5, B: 1}, lipschitz, 0, api.ErrNone},
	} {
		n, e := order.Level(x.a, x.l)
		wantResult(t, fmt.Sprint("Level ", x.a, x.l), n, e, x.n, x.e)
	}
}

// isSquarefree reports whether no square above 1 divides n.
func isSquarefree(n int) bool {
	for d := 2; d*d <= n; d++ {
		if n%(d*d) == 0 {
			return false
		}
	}
	return true
}

// gcd is the greatest common divisor of positive numbers.
func gcd(a, b int) int {
	for b > 0 {
		a, b = b, a%b
	}
	return a
}

// wantEichler checks Eichler.
func wantEichler(t *testing.T, a api.Algebra, l api.Lattice, n int) {
	t.Helper()
	what := fmt.Sprint("Eichler ", a, l, n)
	d := made[int](t)(algebra.Discriminant(a))
	o, e := order.Eichler(a, l, n)
	if !isSquarefree(n) || gcd(n, d) > 1 {
		wantError(t, what, api.ErrPrime, o, e)
		return
	}
	want(t, what, e, api.OK)
	wantNormal(t, what, a, o)
	want(t, what+" is contained in the order", isPart(o, l), true)
	_, ofOrder := discriminants(t, a, o)
	want(t, what+": the discriminant", ofOrder, d*n)
	want(t, what+": the level", made[int](t)(order.Level(a, o)), n)
}

func TestEichler(t *testing.T) {
	for n := 1; n <= 200; n++ {
		wantEichler(t, hamilton, hurwitz, n)
		wantEichler(t, six, hurwitz, n)
	}
	for _, n := range []int{210, 1155, 1365, 1785, 1995, 1999, 2000, 1998, 1997, 1993, 1990, 1891, 1770, 1938, 1554} {
		wantEichler(t, hamilton, hurwitz, n)
		wantEichler(t, matrices, gamma(1), n)
	}
	n := numbers(12)
	for range 150 {
		a := n.algebra()
		l := made[api.Lattice](t)(order.Maximal(a, n.order(t, a)))
		if l.Den > 100 {
			continue
		}
		wantEichler(t, a, n.rewritten(l), n.between(1, 60))
		wantEichler(t, a, l, n.between(1, api.MaxLevel))
	}
}

func TestErrorsOfEichler(t *testing.T) {
	for _, x := range []struct {
		a api.Algebra
		l api.Lattice
		n int
		e api.Errno
	}{
		{hamilton, lipschitz, 0, api.ErrOrder}, {matrices, gamma(3), 3, api.ErrOrder}, {hamilton, lipschitz, 4, api.ErrOrder},
		{hamilton, hurwitz, 0, api.ErrRange}, {hamilton, hurwitz, -3, api.ErrRange}, {hamilton, hurwitz, 2001, api.ErrRange}, {hamilton, hurwitz, 2004, api.ErrRange}, {hamilton, hurwitz, least, api.ErrRange}, {hamilton, hurwitz, greatest, api.ErrRange},
		{hamilton, hurwitz, 2, api.ErrPrime}, {hamilton, hurwitz, 9, api.ErrPrime}, {hamilton, hurwitz, 30, api.ErrPrime}, {hamilton, hurwitz, 75, api.ErrPrime}, {six, hurwitz, 15, api.ErrPrime}, {six, hurwitz, 35, api.OK},
	} {
		l, e := order.Eichler(x.a, x.l, x.n)
		if x.e != api.OK {
			wantError(t, fmt.Sprint("Eichler ", x.a, x.l, x.n), x.e, l, e)
		} else {
			want(t, fmt.Sprint("Eichler ", x.a, x.l, x.n), e, x.e)
		}
	}
	// The discriminant of the algebra, times the level, is too great.
	a := api.Algebra{A: 997, B: 991}
	l := made[api.Lattice](t)(order.Maximal(a, lipschitz))
	d, _ := discriminants(t, a, l)
	want(t, "the discriminant is great", d*1999 > api.MaxDisc && d > 400000, true)
	l, e := order.Eichler(a, l, 1999)
	wantError(t, "Eichler", api.ErrLarge, l, e)
}
