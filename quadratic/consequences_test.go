package quadratic_test

import (
	"fmt"
	"slices"
	"testing"

	"fourfold/api"
	"fourfold/ideal"
	"fourfold/integer"
	"fourfold/order"
	"fourfold/quadratic"
)

// The tests of this file are those of P6.8.

func TestWhatUnimodularMatricesKeep(t *testing.T) {
	n := numbers(70)
	for range 200 {
		f := n.any()
		g, m := n.hidden(f, 12)
		applied, e := quadratic.Apply(f, m)
		wantResult(t, "Apply", applied, e, g, api.OK)
		what := fmt.Sprint(" of ", f, " and ", g)
		keep := func(name string, call func(f api.Form) []any) {
			t.Helper()
			if a, b := fmt.Sprint(call(f)...), fmt.Sprint(call(g)...); a != b {
				t.Errorf("%s%s: %s and %s", name, what, a, b)
			}
		}
		keep("determinants", func(f api.Form) []any { return all(quadratic.Det(f)) })
		keep("levels", func(f api.Form) []any { return all(quadratic.Level(f)) })
		keep("contents", func(f api.Form) []any { return all(quadratic.Content(f)) })
		keep("theta series", func(f api.Form) []any { return all(quadratic.Theta(f, 30)) })
		keep("numbers of primitive vectors", func(f api.Form) []any { return all(quadratic.Primitive(f, 24)) })
		keep("minima", func(f api.Form) []any { return all(quadratic.Minima(f)) })
		keep("labels", func(f api.Form) []any { return all(quadratic.Label(f)) })
		for _, p := range []int{0, 2, 3, 5, 7, 101} {
			keep("Hasse invariants", func(f api.Form) []any { return all(quadratic.Hasse(f, p)) })
			keep("isotropy", func(f api.Form) []any { return all(quadratic.Isotropic(f, p)) })
			keep("symbols", func(f api.Form) []any { return all(quadratic.Symbol(f, p)) })
		}
	}
}

func TestLabelsOfLabels(t *testing.T) {
	n := numbers(71)
	for range 100 {
		f := n.any()
		l, e := quadratic.Label(f)
		if e != api.OK {
			continue
		}
		again, e := quadratic.Label(l)
		wantResult(t, fmt.Sprint("the label of the label of ", f), again, e, l, api.OK)
		m, e := quadratic.Equivalence(f, l)
		if e == api.OK {
			want(t, "CheckEquivalence", quadratic.CheckEquivalence(f, l, m), api.OK)
		} else {
			want(t, fmt.Sprint("Equivalence of the label of ", f), e, api.ErrLarge)
		}
	}
}

func TestProductFormula(t *testing.T) {
	n := numbers(72)
	checked := 0
	for range 300 {
		f := n.any()
		d := determinant(t, f)
		product := made[int](t)(quadratic.Hasse(f, 0)) * made[int](t)(quadratic.Hasse(f, 2))
		rest := d
		for rest%2 == 0 {
			rest /= 2
		}
		primes, e := integer.Factor(rest)
		if e != api.OK || slices.ContainsFunc(primes, func(f api.Power) bool { return f.Prime > api.MaxMod }) {
			continue
		}
		for _, p := range primes {
			product *= made[int](t)(quadratic.Hasse(f, p.Prime))
		}
		want(t, fmt.Sprint("the product of the invariants of ", f), product, 1)
		checked++
	}
	if checked < 150 {
		t.Error("only so many products:", checked)
	}
}

func TestGroupsOfAutomorphisms(t *testing.T) {
	n := numbers(73)
	for range 60 {
		f := n.any()
		list, e := quadratic.Automorphisms(f)
		if e != api.OK {
			want(t, "Automorphisms", e, api.ErrLarge)
			continue
		}
		group := map[string]bool{}
		for _, m := range list {
			group[fmt.Sprint(m)] = true
		}
		want(t, "different automorphisms", len(group), len(list))
		want(t, "the unit matrix is an automorphism", group[fmt.Sprint(unit(f.N))], true)
		for range 50 {
			a, b := one(&n, list...), one(&n, list...)
			if !group[fmt.Sprint(times(a, b))] || !group[fmt.Sprint(back(a))] {
				t.Errorf("Automorphisms of %v: not the product of %v and %v", f, a, b)
			}
		}
	}
}

// Of ideals and orders: determinants, levels and the series of equivalent ideals.
func TestFormsOfIdealsAndOrders(t *testing.T) {
	n := numbers(74)
	checked := 0
	for range 150 {
		a := n.definite(30)
		o := n.order(a)
		d := made[int](t)(order.Discriminant(a, o))
		if f, e := quadratic.Ternary(a, o); e == api.OK {
			want(t, fmt.Sprint("the determinant of the ternary form of ", a, o), determinant(t, f), 32*d*d)
		}
		l := o
		if list, e := ideal.OfNorm(a, o, one(&n, 2, 3, 5)); e == api.OK {
			l = one(&n, list...)
		}
		f, e := quadratic.NormForm(a, l)
		if e != api.OK {
			continue
		}
		want(t, fmt.Sprint("the determinant of the norm form of ", a, l), determinant(t, f), d*d)
		if powers, _ := integer.Factor(d); !slices.ContainsFunc(powers, func(p api.Power) bool { return p.Exponent > 1 }) {
			level, e := quadratic.Level(f)
			wantResult(t, fmt.Sprint("the level of the norm form of ", a, l), level, e, d, api.OK)
			checked++
		}
		moved, e := ideal.Times(a, n.quat(2), l)
		if e != api.OK {
			continue
		}
		if g, e := quadratic.NormForm(a, moved); e == api.OK {
			_, e := quadratic.Equivalence(f, g)
			if e != api.ErrLarge {
				want(t, fmt.Sprint("Equivalence of norm forms of equivalent ideals ", f, g), e, api.OK)
			}
		}
	}
	if checked < 40 {
		t.Error("only so many levels:", checked)
	}
}
