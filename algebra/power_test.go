package algebra_test

import (
	"fmt"
	"math/big"
	"testing"

	"fourfold/algebra"
	"fourfold/api"
)

// The tests of this file are those of P3.4.

func TestInverse(t *testing.T) {
	for _, x := range []struct {
		a    api.Algebra
		q    api.Quat
		want api.Quat
		e    api.Errno
	}{
		{hamilton, api.Quat{W: 1, X: 1, Den: 1}, api.Quat{W: 1, X: -1, Den: 2}, api.OK},
		{six, j, api.Quat{Y: 1, Den: 3}, api.OK},
		{six, api.Quat{X: 1, Y: 1, Den: 1}, api.Quat{X: 1, Y: 1, Den: 2}, api.OK}, // the norm is negative
		{hamilton, api.Quat{W: 4, Den: 6}, api.Quat{W: 3, Den: 2}, api.OK},
		{hamilton, api.Quat{W: -1, Den: coord}, api.Quat{W: -coord, Den: 1}, api.OK},
		{hamilton, api.Quat{X: coord, Den: 1}, api.Quat{X: -1, Den: coord}, api.OK},
		{api.Algebra{A: 1000, B: 1000}, api.Quat{Z: coord, Den: coord}, api.Quat{Z: -1, Den: coord}, api.OK},
		{api.Algebra{A: 1000, B: 1000}, api.Quat{Z: coord, Den: coord / 2}, api.Quat{}, api.ErrLarge},
		{api.Algebra{A: -1000, B: 1}, api.Quat{X: coord, Den: 1}, api.Quat{}, api.ErrLarge},
		{hamilton, api.Quat{W: 1, X: 1, Den: coord - 1}, api.Quat{W: coord - 1, X: 1 - coord, Den: 2}, api.OK},
		{hamilton, api.Quat{W: 1001, X: 1, Den: 1}, api.Quat{}, api.ErrLarge}, // over 1002002
		{hamilton, api.Quat{Den: 1}, api.Quat{}, api.ErrZero},
		{hamilton, api.Quat{Den: coord}, api.Quat{}, api.ErrZero},
		{matrices, api.Quat{W: 5, X: -5, Den: 3}, api.Quat{}, api.ErrZero},
		{matrices, api.Quat{W: coord, X: coord, Den: 1}, api.Quat{}, api.ErrZero},
	} {
		q, e := algebra.Inverse(x.a, x.q)
		wantResult(t, fmt.Sprint("Inverse ", x.a, x.q), q, e, x.want, x.e)
	}
	n := numbers(7)
	fit := 0
	for range 5000 {
		a, q := n.algebra(), n.anyQuat()
		r, e := algebra.Inverse(a, q)
		norm := slowOf(q).norm(a)
		if norm.Sign() == 0 {
			wantError(t, fmt.Sprint("Inverse ", a, q), api.ErrZero, r, e)
		} else if wantQuat(t, fmt.Sprint("Inverse ", a, q), r, e, slowOf(q).conjugate().scaled(new(big.Rat).Inv(norm))) {
			fit++
		}
	}
	if fit < 200 {
		t.Errorf("only %d inverses fit", fit)
	}
}

// wanted is the result of Power.
func wanted(a api.Algebra, q api.Quat, n int) (api.Quat, api.Errno) {
	base := slowOf(q)
	if n < 0 {
		norm := base.norm(a)
		if norm.Sign() == 0 {
			return api.Quat{}, api.ErrZero
		}
		base, n = base.conjugate().scaled(new(big.Rat).Inv(norm)), -n
	}
	power := rational(rat(1, 1))
	for range n {
		power = power.times(a, base)
		if _, fits := power.quat(); !fits {
			return api.Quat{}, api.ErrLarge
		}
	}
	result, _ := power.quat()
	return result, api.OK
}

func TestPower(t *testing.T) {
	n := numbers(8)
	made := 0
	for range 4000 {
		a, q, k := n.algebra(), n.quat(3, 2), n.between(-60, 60)
		if n.between(0, 1) == 0 {
			a, q, k = api.Algebra{A: n.between(1, 2), B: -n.between(1, 2)}, n.quat(2, 3), n.between(-12, 12)
		}
		r, e := algebra.Power(a, q, k)
		w, f := wanted(a, q, k)
		wantResult(t, fmt.Sprint("Power ", a, q, k), r, e, w, f)
		if e == api.OK {
			made++
		}
	}
	if made < 500 {
		t.Errorf("only %d powers fit", made)
	}
}

func TestSpecialPowers(t *testing.T) {
	half := api.Quat{W: 1, X: 1, Y: 1, Z: 1, Den: 2}
	nothing := api.Quat{Den: 1}
	divisor := api.Quat{W: 1, X: 1, Den: 1}
	large := api.Quat{X: coord, Den: 1}
	// Of the trace 100 and the norm 10000: its third power is -1000000, but its square does not fit.
	detour := api.Quat{W: 50, X: 11874, Y: 200, Z: 11876, Den: 1}
	back := api.Quat{W: 25, X: -5937, Y: -100, Z: -5938, Den: 5000}
	for _, x := range []struct {
		a    api.Algebra
		q    api.Quat
		n    int
		want api.Quat
		e    api.Errno
	}{
		{hamilton, half, 3, api.Quat{W: -1, Den: 1}, api.OK}, {hamilton, half, 60, one, api.OK}, {hamilton, half, -60, one, api.OK},
		{hamilton, half, -1, api.Quat{W: 1, X: -1, Y: -1, Z: -1, Den: 2}, api.OK},
		{hamilton, api.Quat{W: 2, X: 4, Den: 6}, 1, api.Quat{W: 1, X: 2, Den: 3}, api.OK},
		{hamilton, i, 61, api.Quat{}, api.ErrRange}, {hamilton, i, -61, api.Quat{}, api.ErrRange}, {hamilton, i, least, api.Quat{}, api.ErrRange}, {hamilton, i, greatest, api.Quat{}, api.ErrRange},
		{hamilton, nothing, 0, one, api.OK}, {hamilton, nothing, 60, nothing, api.OK}, {hamilton, nothing, -1, api.Quat{}, api.ErrZero}, {hamilton, nothing, -61, api.Quat{}, api.ErrRange},
		{matrices, divisor, 0, one, api.OK}, {matrices, divisor, 3, api.Quat{W: 4, X: 4, Den: 1}, api.OK}, {matrices, divisor, -1, api.Quat{}, api.ErrZero}, {matrices, divisor, -60, api.Quat{}, api.ErrZero},
		{matrices, api.Quat{X: 1, Z: 1, Den: 1}, 2, nothing, api.OK},
		{hamilton, large, 1, large, api.OK}, {hamilton, large, 0, one, api.OK}, {hamilton, large, 2, api.Quat{}, api.ErrLarge}, {hamilton, large, -1, api.Quat{X: -1, Den: coord}, api.OK}, {hamilton, large, -2, api.Quat{}, api.ErrLarge},
		{api.Algebra{A: -1000, B: 1}, large, -1, api.Quat{}, api.ErrLarge}, {api.Algebra{A: -1000, B: 1}, large, 0, one, api.OK},
		{hamilton, api.Quat{W: 2, Den: 1}, 19, api.Quat{W: 524288, Den: 1}, api.OK}, {hamilton, api.Quat{W: 2, Den: 1}, 20, api.Quat{}, api.ErrLarge},
		{hamilton, api.Quat{W: 2, Den: 1}, -19, api.Quat{W: 1, Den: 524288}, api.OK}, {hamilton, api.Quat{W: 2, Den: 1}, -20, api.Quat{}, api.ErrLarge},
		{matrices, detour, 1, detour, api.OK}, {matrices, detour, 2, api.Quat{}, api.ErrLarge}, {matrices, detour, 3, api.Quat{}, api.ErrLarge},
		{matrices, detour, -1, back, api.OK}, {matrices, detour, -3, api.Quat{W: -1, Den: coord}, api.OK}, {matrices, detour, -4, api.Quat{}, api.ErrLarge},
	} {
		q, e := algebra.Power(x.a, x.q, x.n)
		wantResult(t, fmt.Sprint("Power ", x.a, x.q, x.n), q, e, x.want, x.e)
	}
}
