package rotation_test

import (
	"fmt"
	"slices"
	"testing"

	"fourfold/api"
	"fourfold/rotation"
)

// The tests of this file are those of P7.5.

// checkExchange checks the only pair by its properties.
func checkExchange(t *testing.T, x, y api.Quat) {
	t.Helper()
	first, second, e := rotation.Exchange(x, y)
	what := fmt.Sprint("Exchange of ", x, " and ", y)
	want(t, what, e, api.OK)
	want(t, what+", the product", product(first, second), product(x, y))
	want(t, what+", the norm of y'", norm(first), norm(y))
	want(t, what+", the norm of x'", norm(second), norm(x))
	want(t, what+", canonical", first, canonical(first))
	want(t, what+", a Hurwitz quaternion", rotation.IsHurwitz(second), true)
}

func TestExchange(t *testing.T) {
	n := numbers(30)
	exchanged := 0
	for range 1500 {
		x, y := n.filled(one(&n, 1, 3, 9)), n.filled(one(&n, 1, 3, 9))
		switch a, b := norm(x), norm(y); {
		case commonDivisor(a, b) != 1:
			wantError(t, fmt.Sprint("Exchange of ", x, " and ", y), api.ErrForm, all(rotation.Exchange(n.rewritten(x), n.rewritten(y)))...)
		default:
			exchanged++
			checkExchange(t, n.rewritten(x), n.rewritten(y))
		}
	}
	if exchanged < 400 {
		t.Errorf("only %d pairs", exchanged)
	}
	checkExchange(t, whole(0, 0, 1, 0), whole(0, -1, 0, 0))
	checkExchange(t, half(1, 1, -1, 1), whole(0, 0, 30, 20))
	checkExchange(t, whole(30, 20, 0, 0), half(-1, 1, -1, 1))
	checkExchange(t, whole(2, 0, 0, 0), whole(3, 0, 0, 0))
	checkExchange(t, whole(2, 2, 0, 0), whole(0, 3, 6, 0))
	checkExchange(t, whole(1000, 0, 0, 0), whole(1, 0, 0, 0))
	checkExchange(t, whole(1, 0, 0, 0), whole(0, 1000, 0, 0))
	first, second, e := rotation.Exchange(whole(0, 1, 0, 0), whole(1, 0, 0, 0))
	wantResult(t, "Exchange of i and 1", []api.Quat{first, second}, e, []api.Quat{whole(1, 0, 0, 0), whole(0, 1, 0, 0)}, api.OK)
}

func TestErrorsOfExchange(t *testing.T) {
	zero, one, two := whole(0, 0, 0, 0), whole(1, 0, 0, 0), whole(1, 1, 0, 0)
	wantError(t, "0 and 0", api.ErrZero, all(rotation.Exchange(zero, zero))...)
	wantError(t, "0 and 1", api.ErrZero, all(rotation.Exchange(zero, one))...)
	wantError(t, "1 and 0", api.ErrZero, all(rotation.Exchange(one, zero))...)
	wantError(t, "2 and 0", api.ErrZero, all(rotation.Exchange(two, zero))...)
	wantError(t, "norms that are not coprime", api.ErrForm, all(rotation.Exchange(two, two))...)
	wantError(t, "norms that are not coprime, and large", api.ErrForm, all(rotation.Exchange(whole(900, 0, 0, 0), whole(0, 900, 0, 0)))...)
	// 64 times 5^6 is 10^6; 101 times 9901 is one more.
	checkExchange(t, whole(8, 0, 0, 0), whole(75, 100, 0, 0))
	checkExchange(t, whole(100, 75, 0, 0), whole(0, 0, 8, 0))
	wantError(t, "a product of the norm 10^6 + 1", api.ErrLarge, all(rotation.Exchange(whole(10, 1, 0, 0), whole(99, 10, 0, 0)))...)
	wantError(t, "a product of the norm 10^6 times 998001", api.ErrLarge, all(rotation.Exchange(whole(1000, 0, 0, 0), whole(999, 0, 0, 0)))...)
}

func TestPermutation(t *testing.T) {
	n := numbers(31)
	for range 150 {
		x, p := n.filled(one(&n, 1, 2, 5, 20)), one(&n, 2, 3, 5, 7, 11, 13, 31)
		what := fmt.Sprint("Permutation of ", x, " at ", p)
		got, e := rotation.Permutation(n.rewritten(x), p)
		if norm(x)%p == 0 {
			wantError(t, what, api.ErrPrime, got, e)
			continue
		}
		list := made[[]api.Quat](t)(rotation.OfNorm(p))
		var places []int
		for _, y := range list {
			// y' is the only one that divides x y from the left.
			for place, q := range list {
				if quotient(q, product(x, y)).isHurwitz() {
					places = append(places, place)
				}
			}
		}
		wantResult(t, what, got, e, places, api.OK)
		sorted := slices.Sorted(slices.Values(got))
		for i, place := range sorted {
			want(t, what+", a permutation", place, i)
		}
		i := n.between(0, len(list)-1)
		first, _, e := rotation.Exchange(x, list[i])
		wantResult(t, what+", by Exchange", first, e, list[got[i]], api.OK)
	}
	got, e := rotation.Permutation(whole(2, 1, 0, 0), 3)
	wantResult(t, "Permutation of 2 + i at 3", got, e, []int{1, 3, 0, 2}, api.OK)
	got, e = rotation.Permutation(whole(2, 1, 0, 0), 2)
	wantResult(t, "Permutation of 2 + i at 2", got, e, []int{0}, api.OK)
}

func TestErrorsOfPermutation(t *testing.T) {
	for _, p := range []int{0, 1, 3, 4, 503, least, greatest} {
		wantError(t, fmt.Sprint("Permutation of 0 at ", p), api.ErrZero, all(rotation.Permutation(whole(0, 0, 0, 0), p))...)
	}
	for _, p := range []int{0, 1, -1, -3, 4, 9, 500, 501, 503, 1009, 1000003, least, greatest} {
		wantError(t, fmt.Sprint("Permutation of 1 at ", p), api.ErrPrime, all(rotation.Permutation(whole(1, 0, 0, 0), p))...)
		wantError(t, fmt.Sprint("Permutation of 1000 at ", p), api.ErrPrime, all(rotation.Permutation(whole(1000, 0, 0, 0), p))...)
	}
	wantError(t, "a prime that divides the norm", api.ErrPrime, all(rotation.Permutation(whole(2, 1, 0, 0), 5))...)
	wantError(t, "a prime that divides the large norm", api.ErrPrime, all(rotation.Permutation(whole(1000, 0, 0, 0), 5))...)
	wantError(t, "a large norm", api.ErrLarge, all(rotation.Permutation(whole(1000, 0, 0, 0), 3))...)
	// 499 times 2004 is 999996, 499 times 2005 more than 10^6.
	want(t, "the norm", norm(whole(44, 8, 2, 0)), 2004)
	got, e := rotation.Permutation(whole(44, 8, 2, 0), 499)
	if e != api.OK || len(got) != 500 {
		t.Errorf("a norm at the limit: %d places, error %d", len(got), e)
	}
	want(t, "the norm", norm(whole(44, 8, 2, 1)), 2005)
	wantError(t, "a norm beyond the limit", api.ErrLarge, all(rotation.Permutation(whole(44, 8, 2, 1), 499))...)
	for _, x := range []struct{ size, p int }{{333331, 3}, {333334, 3}, {499999, 2}, {500001, 2}, {199999, 5}, {200001, 5}} {
		q := sumOfSquares(x.size)
		want(t, "the norm", norm(q), x.size)
		_, e := rotation.Permutation(q, x.p)
		wanted := api.OK
		if x.size*x.p > mostNorm {
			wanted = api.ErrLarge
		}
		want(t, fmt.Sprint("Permutation of norm ", x.size, " at ", x.p), e, wanted)
	}
}
