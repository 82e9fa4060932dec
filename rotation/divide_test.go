package rotation_test

import (
	"fmt"
	"math/big"
	"testing"

	"fourfold/api"
	"fourfold/lattice"
	"fourfold/rotation"
)

// The tests of this file are those of P7.2.

// floor is the greatest integer that is at most c.
func floor(c *big.Rat) *big.Rat {
	q := new(big.Int)
	q.DivMod(c.Num(), c.Denom(), new(big.Int))
	return new(big.Rat).SetInt(q)
}

// division is the division by its definition.
func division(x, y api.Quat) api.Division {
	var integers, halves exact
	for i, c := range quotient(y, x) {
		integers[i] = floor(new(big.Rat).Add(c, big.NewRat(1, 2)))
		halves[i] = new(big.Rat).Add(floor(c), big.NewRat(1, 2))
	}
	rest := func(q exact) exact { return of(x).minus(of(y).times(q)) }
	q := integers
	if rest(halves).norm().Cmp(rest(integers).norm()) < 0 {
		q = halves
	}
	return api.Division{Quotient: q.quat(), Remainder: rest(q).quat()}
}

func TestDivide(t *testing.T) {
	for _, x := range []struct{ x, y, quotient, remainder api.Quat }{
		{whole(5, 0, 0, 0), whole(1, 2, 0, 0), whole(1, -2, 0, 0), whole(0, 0, 0, 0)},
		{whole(1, 1, 1, 1), whole(2, 0, 0, 0), half(1, 1, 1, 1), whole(0, 0, 0, 0)},
		// Both remainders have the norm 4.
		{whole(1, 1, 1, 1), whole(4, 0, 0, 0), whole(0, 0, 0, 0), whole(1, 1, 1, 1)},
		{whole(3, 3, 3, 3), whole(4, 0, 0, 0), whole(1, 1, 1, 1), whole(-1, -1, -1, -1)},
		{whole(-1, -1, -1, -1), whole(4, 0, 0, 0), whole(0, 0, 0, 0), whole(-1, -1, -1, -1)},
		// Here a coordinate is half of an odd integer, which is rounded up.
		{whole(1, 0, 0, 0), whole(2, 0, 0, 0), whole(1, 0, 0, 0), whole(-1, 0, 0, 0)},
		{whole(-1, 0, 0, 0), whole(2, 0, 0, 0), whole(0, 0, 0, 0), whole(-1, 0, 0, 0)},
		{whole(-3, -1, 0, 0), whole(2, 0, 0, 0), whole(-1, 0, 0, 0), whole(-1, -1, 0, 0)},
		{whole(0, 0, 0, 0), whole(3, 1, 0, 0), whole(0, 0, 0, 0), whole(0, 0, 0, 0)},
		{whole(1000, 0, 0, 0), whole(0, 1, 0, 0), whole(0, -1000, 0, 0), whole(0, 0, 0, 0)},
		{whole(0, 1, 0, 0), whole(1000, 0, 0, 0), whole(0, 0, 0, 0), whole(0, 1, 0, 0)},
		// The quotient stands to the right.
		{whole(0, 0, 0, 1), whole(0, 1, 0, 0), whole(0, 0, 1, 0), whole(0, 0, 0, 0)},
	} {
		got, e := rotation.Divide(x.x, x.y)
		wantResult(t, fmt.Sprint(x.x, " by ", x.y), got, e, api.Division{Quotient: x.quotient, Remainder: x.remainder}, api.OK)
		want(t, "the definition", division(x.x, x.y), got)
	}
	wantError(t, "a division by 0", api.ErrZero, all(rotation.Divide(whole(1, 0, 0, 0), whole(0, 0, 0, 0)))...)
	wantError(t, "0 by 0", api.ErrZero, all(rotation.Divide(whole(0, 0, 0, 0), over(9, 0, 0, 0, 0)))...)
}

func TestDivideByItsDefinition(t *testing.T) {
	n := numbers(10)
	for range 3000 {
		x, y := n.hurwitz(one(&n, 2, 9, 80, 450)), n.filled(one(&n, 1, 2, 9, 450))
		if n.between(0, 4) == 0 {
			y = whole(n.between(1, 8), 0, 0, 0)
		}
		got, e := rotation.Divide(n.rewritten(x), n.rewritten(y))
		wantResult(t, fmt.Sprint(x, " by ", y), got, e, division(x, y), api.OK)
		if norm(got.Remainder) >= norm(y) {
			t.Errorf("%v by %v: the remainder %v", x, y, got.Remainder)
		}
	}
}

// rightIdeal is the lattice of all combinations of the elements.
func rightIdeal(t *testing.T, list ...api.Quat) api.Lattice {
	t.Helper()
	l := api.Lattice{Dim: 4, Den: 2}
	for _, q := range list {
		for _, b := range []api.Quat{whole(1, 0, 0, 0), whole(0, 1, 0, 0), whole(0, 0, 1, 0), half(1, 1, 1, 1)} {
			p := product(q, b)
			by := 2 / p.Den
			l.Rows = append(l.Rows, []int{p.W * by, p.X * by, p.Y * by, p.Z * by})
		}
	}
	return made[api.Lattice](t)(lattice.Normal(l))
}

func TestGcd(t *testing.T) {
	n := numbers(11)
	large := 0
	for range 1000 {
		x, y := n.hurwitz(one(&n, 1, 5, 20)), n.hurwitz(one(&n, 1, 5, 20))
		if n.between(0, 1) == 0 {
			d := n.hurwitz(n.between(1, 5))
			x, y = product(d, x), product(d, y)
		}
		got, e := rotation.Gcd(n.rewritten(x), n.rewritten(y))
		what := fmt.Sprint("Gcd of ", x, " and ", y)
		want(t, what, e, api.OK)
		want(t, what+", canonical", got, canonical(got))
		if wanted := rightIdeal(t, x, y); !same(rightIdeal(t, got), wanted) {
			t.Errorf("%s: %v, whose ideal is not %v", what, got, wanted)
		}
		if norm(got) > 1 {
			large++
		}
	}
	if large < 300 {
		t.Errorf("only %d common divisors that are no units", large)
	}
}

func TestSpecialCommonDivisors(t *testing.T) {
	for _, x := range []struct{ x, y, want api.Quat }{
		{whole(0, 0, 0, 0), whole(0, 0, 0, 0), whole(0, 0, 0, 0)},
		{whole(0, 0, 0, 0), whole(0, -3, 0, 0), whole(3, 0, 0, 0)},
		{half(-1, -3, 1, 1), whole(0, 0, 0, 0), canonical(half(-1, -3, 1, 1))},
		{whole(2, 0, 0, 0), whole(3, 0, 0, 0), whole(1, 0, 0, 0)},
		{whole(6, 0, 0, 0), whole(0, 9, 0, 0), whole(3, 0, 0, 0)},
		{whole(2, 0, 0, 0), whole(0, 1, 1, 0), whole(1, 1, 0, 0)},
		{whole(1000, 0, 0, 0), whole(0, 999, 0, 0), whole(1, 0, 0, 0)},
		{whole(2, 1, 0, 0), whole(5, 0, 0, 0), whole(2, 1, 0, 0)},
	} {
		got, e := rotation.Gcd(x.x, x.y)
		wantResult(t, fmt.Sprint("Gcd of ", x.x, " and ", x.y), got, e, x.want, api.OK)
	}
}
