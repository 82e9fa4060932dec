package rotation_test

import (
	"fmt"
	"math/big"
	"testing"

	"fourfold/api"
	"fourfold/rotation"
)

// The tests of this file are those of P7.7.

// fraction is a fraction in lowest terms.
func fraction(num, den int) api.Frac {
	x := big.NewRat(int64(num), int64(den))
	return api.Frac{Num: int(x.Num().Int64()), Den: int(x.Denom().Int64())}
}

func TestRodrigues(t *testing.T) {
	got, e := rotation.Rodrigues(whole(2, 1, 0, 0))
	wantResult(t, "Rodrigues of 2 + i", got, e, []api.Frac{{Num: 1, Den: 2}, {Num: 0, Den: 1}, {Num: 0, Den: 1}}, api.OK)
	got, e = rotation.Rodrigues(over(coord, -coord, coord, coord-1, 1))
	wantResult(t, "Rodrigues of large coordinates", got, e, []api.Frac{{Num: -1, Den: 1}, {Num: 1 - coord, Den: coord}, {Num: -1, Den: coord}}, api.OK)
	n := numbers(50)
	for range 1000 {
		x := n.some(one(&n, 2, 20, coord))
		got, e := rotation.Rodrigues(x)
		if x.W == 0 {
			wantError(t, fmt.Sprint("Rodrigues of ", x), api.ErrNone, got, e)
			continue
		}
		wantResult(t, fmt.Sprint("Rodrigues of ", x), got, e, []api.Frac{fraction(x.X, x.W), fraction(x.Y, x.W), fraction(x.Z, x.W)}, api.OK)
	}
	wantError(t, "Rodrigues of i", api.ErrNone, all(rotation.Rodrigues(whole(0, 1, 0, 0)))...)
}

// parameters are three fractions.
func parameters(a, b, c, d, e, f int) []api.Frac {
	return []api.Frac{{Num: a, Den: b}, {Num: c, Den: d}, {Num: e, Den: f}}
}

func TestFromRodrigues(t *testing.T) {
	n := numbers(51)
	large := 0
	for range 1500 {
		var list []api.Frac
		x := exact{big.NewRat(1, 1)}
		size := one(&n, 3, 30, 1000)
		for i := range 3 {
			f := api.Frac{Num: n.between(-size, size), Den: n.between(1, size)}
			x[i+1] = big.NewRat(int64(f.Num), int64(f.Den))
			list = append(list, f)
		}
		q := x.quat()
		q.W, q.Den = q.Den, 1
		got, e := rotation.FromRodrigues(list)
		if !fits(q, coord) {
			large++
			wantError(t, fmt.Sprint("FromRodrigues of ", list), api.ErrLarge, got, e)
		} else {
			wantResult(t, fmt.Sprint("FromRodrigues of ", list), got, e, q, api.OK)
		}
	}
	if large < 100 {
		t.Errorf("only %d large ones", large)
	}
	for _, x := range []struct {
		list []api.Frac
		want api.Quat
	}{
		{parameters(0, 1, 0, 5, 0, 1000), whole(1, 0, 0, 0)},
		{parameters(1, 2, 0, 1, 0, 1), whole(2, 1, 0, 0)},
		{parameters(2, 4, -6, 3, 500, 1000), whole(2, 1, -4, 1)},
		{parameters(1000, 1, -1000, 1, 1000, 1), whole(1, 1000, -1000, 1000)},
		{parameters(1, 1000, 1, 999, 0, 1), whole(999000, 999, 1000, 0)},
		{parameters(1000, 1, 1, 1000, 0, 1), whole(1000, coord, 1, 0)},
		{parameters(0, 1, 1, 1000, -1000, 1), whole(1000, 0, 1, -coord)},
		{parameters(1, 125, 1, 64, 1, 125), whole(8000, 64, 125, 64)},
		{parameters(1, 1000, 0, 1, 1, 625), whole(5000, 5, 0, 8)},
	} {
		got, e := rotation.FromRodrigues(x.list)
		wantResult(t, fmt.Sprint("FromRodrigues of ", x.list), got, e, x.want, api.OK)
	}
}

func TestErrorsOfFromRodrigues(t *testing.T) {
	good := api.Frac{Num: 1, Den: 2}
	for _, list := range [][]api.Frac{nil, {}, {good}, {good, good}, {good, good, good, good}, {{}, {}}, {{}, {}, {}, {}}} {
		wantError(t, fmt.Sprint("FromRodrigues of ", list), api.ErrShape, all(rotation.FromRodrigues(list))...)
	}
	for _, x := range []struct {
		f api.Frac
		e api.Errno
	}{
		{api.Frac{}, api.ErrForm}, {api.Frac{Num: 1, Den: -2}, api.ErrForm}, {api.Frac{Num: 1001, Den: 0}, api.ErrForm}, {api.Frac{Num: 1001, Den: -1001}, api.ErrForm}, {api.Frac{Num: 1, Den: least}, api.ErrForm},
		{api.Frac{Num: 1001, Den: 1}, api.ErrRange}, {api.Frac{Num: -1001, Den: 1}, api.ErrRange}, {api.Frac{Num: 1, Den: 1001}, api.ErrRange}, {api.Frac{Num: least, Den: 1}, api.ErrRange}, {api.Frac{Num: 0, Den: greatest}, api.ErrRange}, {api.Frac{Num: 2002, Den: 2002}, api.ErrRange},
	} {
		for i := range 3 {
			list := []api.Frac{good, good, good}
			list[i] = x.f
			wantError(t, fmt.Sprint("FromRodrigues of ", list), x.e, all(rotation.FromRodrigues(list))...)
		}
	}
	wantError(t, "the first element decides", api.ErrRange, all(rotation.FromRodrigues(parameters(1001, 1, 1, 0, 1, 1)))...)
	wantError(t, "the first element decides", api.ErrForm, all(rotation.FromRodrigues(parameters(1, 1, 1, 0, 1001, 1)))...)
	wantError(t, "the first coordinate just too large", api.ErrLarge, all(rotation.FromRodrigues(parameters(1, 15, 1, 163, 1, 409)))...)
	wantError(t, "the second coordinate just too large", api.ErrLarge, all(rotation.FromRodrigues(parameters(-969, 1, 1, 24, 1, 43)))...)
	wantError(t, "the third coordinate just too large", api.ErrLarge, all(rotation.FromRodrigues(parameters(1, 24, 969, 1, 1, 43)))...)
	wantError(t, "the last coordinate just too large", api.ErrLarge, all(rotation.FromRodrigues(parameters(1, 43, 1, 24, -969, 1)))...)
	wantError(t, "a large denominator", api.ErrLarge, all(rotation.FromRodrigues(parameters(1, 1000, 1, 999, 1, 997)))...)
}

func TestCosine(t *testing.T) {
	for _, x := range []struct {
		q    api.Quat
		want api.Frac
	}{
		{whole(1, 1, 0, 0), api.Frac{Num: 0, Den: 1}}, {whole(2, 1, 0, 0), api.Frac{Num: 3, Den: 5}}, {over(3, 7, 0, 0, 0), api.Frac{Num: 1, Den: 1}}, {whole(0, 1, -4, 2), api.Frac{Num: -1, Den: 1}}, {half(1, 1, 1, 1), api.Frac{Num: -1, Den: 2}}, {whole(3, 1, 1, 1), api.Frac{Num: 1, Den: 2}},
	} {
		got, e := rotation.Cosine(x.q)
		wantResult(t, fmt.Sprint("Cosine of ", x.q), got, e, x.want, api.OK)
	}
	n := numbers(52)
	for range 1000 {
		x := n.some(one(&n, 3, 50, coord))
		got, e := rotation.Cosine(x)
		wantResult(t, fmt.Sprint("Cosine of ", x), got, e, fraction(x.W*x.W-x.X*x.X-x.Y*x.Y-x.Z*x.Z, squares(x)), api.OK)
	}
}
