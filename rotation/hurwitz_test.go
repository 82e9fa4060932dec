package rotation_test

import (
	"fmt"
	"slices"
	"testing"

	"fourfold/api"
	"fourfold/rotation"
)

// The tests of this file are those of P7.1.

// badQuats are elements that CheckQuat refuses.
func badQuats() []api.Quat {
	return []api.Quat{{}, over(0, 1, 0, 0, 0), over(-1, 1, 0, 0, 0), over(-2, 1, 1, 1, 1), over(coord+1, 1, 0, 0, 0), whole(coord+1, 0, 0, 0), whole(0, -coord-1, 0, 0), whole(0, 0, greatest, 0), whole(0, 0, 0, least), over(least, 1, 0, 0, 0)}
}

func TestIsHurwitz(t *testing.T) {
	for _, q := range []api.Quat{whole(0, 0, 0, 0), whole(3, -4, 0, 7), half(1, 1, 1, 1), half(-1, 3, -5, 7), over(4, 2, 2, -2, 2), over(6, 6, 12, 0, -18), over(coord, coord, 0, 0, 0), over(7, 0, 0, 0, 0), whole(coord, coord, -coord, coord), half(coord-1, 1, 1, 1)} {
		want(t, fmt.Sprint("IsHurwitz of ", q), rotation.IsHurwitz(q), true)
	}
	for _, q := range []api.Quat{half(1, 1, 1, 0), half(0, 1, 1, 1), half(1, 0, 1, 1), half(1, 1, 0, 1), half(1, 1, 1, 2), half(1, 0, 0, 0), over(3, 1, 1, 1, 1), over(4, 1, 1, 1, 1), over(4, 2, 2, 2, 4), over(coord, 1, 0, 0, 0)} {
		want(t, fmt.Sprint("IsHurwitz of ", q), rotation.IsHurwitz(q), false)
	}
	for _, q := range badQuats() {
		want(t, fmt.Sprint("IsHurwitz of ", q), rotation.IsHurwitz(q), false)
	}
	n := numbers(1)
	for range 2000 {
		q := n.quat(4)
		want(t, fmt.Sprint("IsHurwitz of ", q), rotation.IsHurwitz(q), of(q).isHurwitz())
	}
}

func TestUnits(t *testing.T) {
	units := quats(1)
	slices.Reverse(units)
	want(t, "the number of units", len(units), 24)
	wantResult(t, "Units", rotation.Units(), api.OK, units, api.OK)
	want(t, "the first unit", rotation.Units()[0], whole(1, 0, 0, 0))
	want(t, "the second unit", rotation.Units()[1], half(1, 1, 1, 1))
	want(t, "the third unit", rotation.Units()[2], half(1, 1, 1, -1))
	want(t, "the last unit", rotation.Units()[23], whole(-1, 0, 0, 0))
}

func TestErrorsOfHurwitzQuaternions(t *testing.T) {
	check := func(q api.Quat, e api.Errno) {
		t.Helper()
		what := fmt.Sprint(" of ", q)
		good := whole(1, 2, 0, 0)
		wantError(t, "Norm"+what, e, all(rotation.Norm(q))...)
		wantError(t, "Times"+what, e, all(rotation.Times(q, good))...)
		wantError(t, "Times, second,"+what, e, all(rotation.Times(good, q))...)
		wantError(t, "Divide"+what, e, all(rotation.Divide(q, good))...)
		wantError(t, "Divide, second,"+what, e, all(rotation.Divide(good, q))...)
		wantError(t, "Gcd"+what, e, all(rotation.Gcd(q, good))...)
		wantError(t, "Gcd, second,"+what, e, all(rotation.Gcd(good, q))...)
		wantError(t, "Canonical"+what, e, all(rotation.Canonical(q))...)
		wantError(t, "Content"+what, e, all(rotation.Content(q))...)
		wantError(t, "Factor"+what, e, all(rotation.Factor(q, nil))...)
		wantError(t, "CountFactors"+what, e, all(rotation.CountFactors(q, nil))...)
		wantError(t, "Exchange"+what, e, all(rotation.Exchange(q, good))...)
		wantError(t, "Exchange, second,"+what, e, all(rotation.Exchange(good, q))...)
		wantError(t, "Permutation"+what, e, all(rotation.Permutation(q, 4))...)
	}
	for _, q := range badQuats() {
		check(q, api.ErrForm)
	}
	for _, q := range []api.Quat{half(1, 1, 1, 0), over(3, 1, 1, 1, 1), over(4, 1, 1, 1, 1), half(coord-1, 0, 0, 0)} {
		check(q, api.ErrOrder)
	}
	for _, q := range []api.Quat{whole(1000, 1, 0, 0), whole(0, 0, 0, 1001), whole(coord, coord, coord, coord), half(1001, 1001, 999, 1001), over(2, 2000, 2, 0, 0)} {
		check(q, api.ErrLarge)
	}
	wantError(t, "Times of two bad elements", api.ErrForm, all(rotation.Times(whole(coord+1, 0, 0, 0), over(3, 1, 0, 0, 0)))...)
	wantError(t, "Times of two bad elements", api.ErrOrder, all(rotation.Times(over(3, 1, 0, 0, 0), whole(coord+1, 0, 0, 0)))...)
	wantError(t, "Divide of two bad elements", api.ErrLarge, all(rotation.Divide(whole(1001, 0, 0, 0), whole(coord+1, 0, 0, 0)))...)
	wantError(t, "Exchange of two bad elements", api.ErrLarge, all(rotation.Exchange(whole(1001, 0, 0, 0), over(5, 1, 0, 0, 0)))...)
}

func TestNorm(t *testing.T) {
	for _, x := range []struct {
		q    api.Quat
		want int
	}{{whole(0, 0, 0, 0), 0}, {whole(1, 1, 0, 0), 2}, {half(1, 1, 1, 1), 1}, {half(3, 1, -1, -1), 3}, {whole(1000, 0, 0, 0), mostNorm}, {whole(500, -500, 500, 500), mostNorm}, {half(1999, 63, 5, 1), mostNorm - 1}, {over(4, 4, 4, 8, 0), 6}} {
		got, e := rotation.Norm(x.q)
		wantResult(t, fmt.Sprint("Norm of ", x.q), got, e, x.want, api.OK)
	}
	n := numbers(2)
	for range 500 {
		q := n.hurwitz(one(&n, 3, 40, 700))
		got, e := rotation.Norm(n.rewritten(q))
		if wanted := norm(q); wanted > mostNorm {
			wantError(t, fmt.Sprint("Norm of ", q), api.ErrLarge, got, e)
		} else {
			wantResult(t, fmt.Sprint("Norm of ", q), got, e, wanted, api.OK)
		}
	}
}

func TestTimes(t *testing.T) {
	n := numbers(3)
	for range 1000 {
		size := one(&n, 2, 9, 20)
		x, y := n.hurwitz(size), n.hurwitz(size)
		got, e := rotation.Times(n.rewritten(x), n.rewritten(y))
		if norm(x)*norm(y) > mostNorm {
			wantError(t, fmt.Sprint(x, " times ", y), api.ErrLarge, got, e)
		} else {
			wantResult(t, fmt.Sprint(x, " times ", y), got, e, product(x, y), api.OK)
		}
	}
	got, e := rotation.Times(whole(30, 10, 0, 0), whole(30, 0, 10, 0))
	wantResult(t, "a product of the norm 10^6", got, e, whole(900, 300, 300, 100), api.OK)
	wantError(t, "a product of the norm 10^6 + 1", api.ErrLarge, all(rotation.Times(whole(10, 1, 0, 0), whole(99, 10, 0, 0)))...)
	wantError(t, "a product of the norm 10^12", api.ErrLarge, all(rotation.Times(whole(1000, 0, 0, 0), whole(0, 1000, 0, 0)))...)
	got, e = rotation.Times(whole(1000, 0, 0, 0), whole(0, 0, 0, 0))
	wantResult(t, "a product with 0", got, e, whole(0, 0, 0, 0), api.OK)
	got, e = rotation.Times(whole(0, 1, 0, 0), whole(0, 0, 1, 0))
	wantResult(t, "i j", got, e, whole(0, 0, 0, 1), api.OK)
}

func TestCanonical(t *testing.T) {
	got, e := rotation.Canonical(over(6, 0, 0, 0, 0))
	wantResult(t, "Canonical of 0", got, e, whole(0, 0, 0, 0), api.OK)
	n := numbers(4)
	for range 200 {
		x := n.hurwitz(one(&n, 1, 3, 300))
		got, e := rotation.Canonical(n.rewritten(x))
		wantResult(t, fmt.Sprint("Canonical of ", x), got, e, canonical(x), api.OK)
	}
	for _, u := range quats(1) {
		got, e := rotation.Canonical(u)
		wantResult(t, fmt.Sprint("Canonical of ", u), got, e, whole(1, 0, 0, 0), api.OK)
	}
}

func TestContent(t *testing.T) {
	wantError(t, "Content of 0", api.ErrZero, all(rotation.Content(whole(0, 0, 0, 0)))...)
	for _, x := range []struct {
		q    api.Quat
		want int
	}{{whole(1, 1, 0, 0), 1}, {whole(1, 1, 1, 1), 2}, {whole(3, 1, -1, -1), 2}, {whole(2, 2, 2, 0), 2}, {whole(2, 2, 2, 2), 4}, {half(3, 3, 9, 3), 3}, {whole(6, 0, 0, 0), 6}, {whole(1000, 0, 0, 0), 1000}, {half(1, 1, 1, 1), 1}, {whole(3, 3, 3, 9), 6}} {
		got, e := rotation.Content(x.q)
		wantResult(t, fmt.Sprint("Content of ", x.q), got, e, x.want, api.OK)
	}
	n := numbers(5)
	for range 300 {
		x := n.filled(n.between(1, 6))
		by := n.between(1, 6)
		x = of(over(x.Den, by*x.W, by*x.X, by*x.Y, by*x.Z)).quat()
		wanted := 0
		for m := 1; m <= 100; m++ {
			if of(over(x.Den*m, x.W, x.X, x.Y, x.Z)).isHurwitz() {
				wanted = m
			}
		}
		got, e := rotation.Content(n.rewritten(x))
		wantResult(t, fmt.Sprint("Content of ", x), got, e, wanted, api.OK)
	}
}
