package brandt_test

import (
	"fmt"
	"math/big"
	"testing"

	"fourfold/api"
	"fourfold/brandt"
)

// The tests of this file are those of P8.7.

// slowClassNumber counts reduced forms, by trying all numbers.
func slowClassNumber(d int) *big.Rat {
	if d == 0 {
		return rat(-1, 12)
	}
	count := new(big.Rat)
	for a := 1; 3*a*a <= d; a++ {
		for b := -a; b <= a; b++ {
			for c := a; 4*a*c-b*b <= d; c++ {
				if 4*a*c-b*b != d || b < 0 && (b == -a || a == c) {
					continue
				}
				switch {
				case b == 0 && a == c:
					count.Add(count, rat(1, 2))
				case a == b && b == c:
					count.Add(count, rat(1, 3))
				default:
					count.Add(count, rat(1, 1))
				}
			}
		}
	}
	return count
}

func TestClassNumber(t *testing.T) {
	for d := range 400 {
		h, e := brandt.ClassNumber(d)
		wantResult(t, fmt.Sprint("ClassNumber ", d), h, e, frac(slowClassNumber(d)), api.OK)
	}
	// From tables.
	for d, wanted := range map[int]api.Frac{0: {Num: -1, Den: 12}, 1: {Den: 1}, 2: {Den: 1}, 3: {Num: 1, Den: 3}, 4: {Num: 1, Den: 2}, 5: {Den: 1}, 7: {Num: 1, Den: 1}, 8: {Num: 1, Den: 1}, 12: {Num: 4, Den: 3}, 16: {Num: 3, Den: 2}, 23: {Num: 3, Den: 1}, 27: {Num: 4, Den: 3}, 163: {Num: 1, Den: 1}, 239: {Num: 15, Den: 1}, 5923: {Num: 7, Den: 1}} {
		h, e := brandt.ClassNumber(d)
		wantResult(t, fmt.Sprint("ClassNumber ", d), h, e, wanted, api.OK)
	}
	for _, d := range []int{-1, million + 1, least, greatest, -4} {
		h, e := brandt.ClassNumber(d)
		wantError(t, fmt.Sprint("ClassNumber ", d), api.ErrRange, h, e)
	}
	_, e := brandt.ClassNumber(million)
	want(t, "ClassNumber of a million", e, api.OK)
}

// The sum of the H(4 n - s^2) is that of the greater ones of d and n / d, over the divisors d of n (Kronecker and Hurwitz).
func TestSumsOfClassNumbers(t *testing.T) {
	for _, n := range []int{1, 2, 3, 4, 5, 6, 7, 12, 25, 36, 97, 100, 500, 1000, 9973, 10000, 250000} {
		sum := new(big.Rat)
		for s := 0; s*s <= 4*n; s++ {
			h := made[api.Frac](t)(brandt.ClassNumber(4*n - s*s))
			sum.Add(sum, rat(h.Num, h.Den))
			if s > 0 {
				sum.Add(sum, rat(h.Num, h.Den))
			}
		}
		wanted := 0
		for d := 1; d <= n; d++ {
			if n%d == 0 {
				wanted += max(d, n/d)
			}
		}
		want(t, fmt.Sprint("the sum of class numbers for ", n), sum.Cmp(rat(wanted, 1)), 0)
	}
}

// kronecker is the symbol of -d over the prime p.
func kronecker(d, p int) int {
	if p == 2 {
		return []int{0, 0, 0, -1, 0, 0, 0, 1}[d%8]
	}
	return big.Jacobi(big.NewInt(int64(-d)), big.NewInt(int64(p)))
}

// slowH is H(p, d) by its definition.
func slowH(p, d int) *big.Rat {
	if d == 0 {
		return rat(p-1, 24)
	}
	if d%4 == 1 || d%4 == 2 {
		return rat(0, 1)
	}
	f := d
	for d%(f*f) != 0 || d/(f*f)%4 != 0 && d/(f*f)%4 != 3 {
		f--
	}
	if f%p == 0 {
		return slowH(p, d/(p*p))
	}
	return new(big.Rat).Mul(slowClassNumber(d), rat(1-kronecker(d, p), 2))
}

func TestTrace(t *testing.T) {
	for _, p := range []int{2, 3, 5, 7, 11, 37, 997} {
		for _, n := range []int{1, 2, 3, 4, 5, 7, 8, 9, 10, 11, 12, 18, 25, 27, 36, 49, 64, 75, 100, 121} {
			sum := new(big.Rat)
			for s := -2 * n; s <= 2*n; s++ {
				if s*s <= 4*n {
					sum.Add(sum, slowH(p, 4*n-s*s))
				}
			}
			trace, e := brandt.Trace(p, n)
			wantResult(t, fmt.Sprint("Trace ", p, n), trace, e, frac(sum), api.OK)
		}
	}
	trace, e := brandt.Trace(11, 2)
	wantResult(t, "Trace for 11", trace, e, api.Frac{Num: 1, Den: 1}, api.OK)
	for _, p := range []int{2, 3, 5, 7, 13} { // there is one class, and the trace is the row sum
		for n := 1; n <= 1000; n += 37 {
			trace, e := brandt.Trace(p, n)
			wantResult(t, fmt.Sprint("Trace ", p, n), trace, e, api.Frac{Num: sumOf(n, func(d int) bool { return d%p > 0 }), Den: 1}, api.OK)
		}
	}
	trace, e = brandt.Trace(13, 1000)
	wantResult(t, "Trace at the limit", trace, e, api.Frac{Num: sumOf(1000, func(int) bool { return true }), Den: 1}, api.OK)
}

func TestErrorsOfTrace(t *testing.T) {
	for _, x := range []struct {
		p, n int
		e    api.Errno
	}{{4, 0, api.ErrRange}, {4, 1001, api.ErrRange}, {3, 0, api.ErrRange}, {3, -1, api.ErrRange}, {3, 1001, api.ErrRange}, {1, 5, api.ErrRange}, {0, 5, api.ErrRange}, {-3, 5, api.ErrRange}, {1009, 5, api.ErrRange}, {1001, 5, api.ErrRange}, {least, least, api.ErrRange}, {greatest, 1, api.ErrRange}, {2, greatest, api.ErrRange}, {4, 1, api.ErrPrime}, {1000, 1000, api.ErrPrime}, {999, 1000, api.ErrPrime}, {9, 3, api.ErrPrime}, {91, 3, api.ErrPrime}} {
		trace, e := brandt.Trace(x.p, x.n)
		wantError(t, fmt.Sprint("Trace ", x.p, x.n), x.e, trace, e)
	}
}
