package order_test

import (
	"fmt"
	"testing"

	"fourfold/algebra"
	"fourfold/api"
	"fourfold/order"
)

// The tests of this file are those of P4.9.

func TestElementsAreIntegral(t *testing.T) {
	n := numbers(18)
	for range 200 {
		a := n.algebra()
		l := n.order(t, a)
		q := n.combination(t, a, l, 9)
		want(t, fmt.Sprint("Contains ", a, l, q), made[bool](t)(order.Contains(a, l, q)), true)
		want(t, fmt.Sprint("Integral ", a, q), made[bool](t)(algebra.Integral(a, q)), true)
	}
}

func TestOverordersAndMaximalOrders(t *testing.T) {
	n := numbers(19)
	for range 150 {
		a := n.algebra()
		l := n.order(t, a)
		ofAlgebra, d := discriminants(t, a, l)
		want(t, fmt.Sprint("IsMaximal ", a, l), made[bool](t)(order.IsMaximal(a, l)), d == ofAlgebra)
		for _, p := range []int{2, 3, 5, 7} {
			list, e := order.Overorders(a, l, p)
			maximal := made[bool](t)(order.IsMaximalAt(a, l, p))
			if maximal {
				wantResult(t, fmt.Sprint("Overorders ", a, l, p), list, e, []api.Lattice{}, api.OK)
			}
			for _, larger := range list {
				_, f := discriminants(t, a, larger)
				want(t, fmt.Sprint("the discriminant of ", larger), f*p, d)
				want(t, fmt.Sprint(larger, " contains ", l), isPart(l, larger), true)
			}
		}
	}
}

func TestSymbolsOfMaximalAndEichlerOrders(t *testing.T) {
	n := numbers(20)
	for range 150 {
		a := n.algebra()
		l, e := order.Maximal(a, n.order(t, a))
		if e != api.OK {
			continue
		}
		d := made[int](t)(algebra.Discriminant(a))
		level := n.between(1, 200)
		eichler, e := order.Eichler(a, l, level)
		for _, p := range []int{2, 3, 5, 7, 11, 13} {
			wanted := 2
			if d%p == 0 {
				wanted = -1
			}
			want(t, fmt.Sprint("Symbol ", a, l, p), made[int](t)(order.Symbol(a, l, p)), wanted)
			if e != api.OK {
				continue
			}
			if level%p == 0 {
				wanted = 1
			}
			want(t, fmt.Sprint("Symbol ", a, eichler, p), made[int](t)(order.Symbol(a, eichler, p)), wanted)
		}
	}
}

func TestConjugatesAreAlike(t *testing.T) {
	n := numbers(21)
	compared := 0
	for range 200 {
		a := n.algebra()
		if n.between(0, 1) == 0 {
			a = n.definite()
		}
		l := n.order(t, a)
		m, e := order.Conjugate(a, l, n.quat(5, 3))
		if e != api.OK {
			continue
		}
		compared++
		what := fmt.Sprint("conjugates ", a, l, m)
		for _, p := range []int{2, 3, 5} {
			want(t, what, made[int](t)(order.Symbol(a, l, p)), made[int](t)(order.Symbol(a, m, p)))
			ofL, e := order.Overorders(a, l, p)
			ofM, f := order.Overorders(a, m, p)
			if e == api.OK && f == api.OK {
				want(t, what, len(ofL), len(ofM))
			}
		}
		want(t, what, made[int](t)(order.Discriminant(a, l)), made[int](t)(order.Discriminant(a, m)))
		if a.A > 0 || a.B > 0 {
			continue
		}
		want(t, what, made[string](t)(order.Group(a, l)), made[string](t)(order.Group(a, m)))
		for _, norm := range []int{1, 3, 4, 10, 21} {
			want(t, what, len(made[[]api.Quat](t)(order.Elements(a, l, norm))), len(made[[]api.Quat](t)(order.Elements(a, m, norm))))
		}
	}
	if compared < 100 {
		t.Errorf("only %d conjugates", compared)
	}
}

func TestTheOrderItselfIsAmongItsConjugates(t *testing.T) {
	n := numbers(22)
	for range 100 {
		a := n.algebra()
		l := n.order(t, a)
		q := n.quat(4, 2)
		m, e := order.Conjugate(a, l, q)
		if e != api.OK {
			continue
		}
		back, e := order.Conjugate(a, m, made[api.Quat](t)(algebra.Conj(q)))
		wanted, _ := echelonOf(slowRows(l)).small()
		wantResult(t, fmt.Sprint("Conjugate and back ", a, l, q), back, e, wanted, api.OK)
		same, e := order.Conjugate(a, l, api.Quat{W: n.between(1, 99), Den: n.between(1, 99)})
		wantResult(t, fmt.Sprint("Conjugate by a rational element ", a, l), same, e, wanted, api.OK)
	}
}
