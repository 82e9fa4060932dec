package algebra_test

import (
	"fmt"
	"slices"
	"testing"

	"fourfold/algebra"
	"fourfold/api"
)

// The tests of this file are those of P3.8.

// modular is a product of matrices modulo p.
func modular(x, y api.Mod2, p int) api.Mod2 {
	return api.Mod2{A: (x.A*y.A + x.B*y.C) % p, B: (x.A*y.B + x.B*y.D) % p, C: (x.C*y.A + x.D*y.C) % p, D: (x.C*y.B + x.D*y.D) % p}
}

// wantModulo checks that the matrices represent the algebra modulo p.
func wantModulo(t *testing.T, a api.Algebra, p int) {
	t.Helper()
	what := fmt.Sprint("Modulo ", a, p)
	i, j, e := algebra.Modulo(a, p)
	want(t, what, e, api.OK)
	for _, n := range []int{i.A, i.B, i.C, i.D, j.A, j.B, j.C, j.D} {
		if n < 0 || n >= p {
			t.Errorf("%s: %v, %v", what, i, j)
		}
	}
	scalar := func(n int) api.Mod2 { return api.Mod2{A: (n%p + p) % p, D: (n%p + p) % p} }
	want(t, what+": the first square", modular(i, i, p), scalar(a.A))
	want(t, what+": the second square", modular(j, j, p), scalar(a.B))
	forth, back := modular(i, j, p), modular(j, i, p)
	sum := api.Mod2{A: (forth.A + back.A) % p, B: (forth.B + back.B) % p, C: (forth.C + back.C) % p, D: (forth.D + back.D) % p}
	want(t, what+": the sum of the products", sum, api.Mod2{})
}

func TestModulo(t *testing.T) {
	list := []api.Algebra{hamilton, six, matrices, {A: -1, B: -11}, {A: 1000, B: -1000}, {A: -997, B: 991}, {A: 210, B: -143}}
	for p := -2; p <= 400; p++ {
		for _, a := range list {
			if p > 2 && slices.Equal(factors(p), []int{p}) && a.A%p != 0 && a.B%p != 0 {
				wantModulo(t, a, p)
				continue
			}
			i, j, e := algebra.Modulo(a, p)
			wantError(t, fmt.Sprint("Modulo ", a, p), api.ErrPrime, i, j, e)
		}
	}
	n := numbers(15)
	for _, p := range []int{3, 5, 7, 11, 13, 997, 9931, 9949, 9967, 9973} {
		for range 200 {
			if a := n.algebra(); a.A%p != 0 && a.B%p != 0 {
				wantModulo(t, a, p)
			}
		}
	}
}

func TestErrorsOfModulo(t *testing.T) {
	for _, x := range []struct {
		a api.Algebra
		p int
	}{
		{hamilton, 10007}, {hamilton, 10009}, {hamilton, 999999937}, {hamilton, 1000000007}, {hamilton, 10000}, {hamilton, 9999}, {hamilton, 9975},
		{hamilton, -3}, {hamilton, least}, {hamilton, greatest}, {hamilton, 0}, {hamilton, 1}, {hamilton, 2}, {hamilton, 4}, {hamilton, 9},
		{six, 3}, {api.Algebra{A: 14, B: 1}, 7}, {api.Algebra{A: 1, B: -14}, 7}, {api.Algebra{A: -997, B: 1}, 997}, {api.Algebra{A: 5, B: 5}, 5},
	} {
		i, j, e := algebra.Modulo(x.a, x.p)
		wantError(t, fmt.Sprint("Modulo ", x.a, x.p), api.ErrPrime, i, j, e)
	}
}
