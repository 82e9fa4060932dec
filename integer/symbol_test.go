package integer_test

import (
	"fmt"
	"math/big"
	"testing"

	"fourfold/api"
	"fourfold/integer"
)

// The tests of this file are those of P1.4.

func TestValuation(t *testing.T) {
	for _, p := range []int{2, 3, 5, 97, 31607, 999999937} {
		power := 1
		for k := 0; power <= greatest/p; k++ {
			power *= p
			for _, unit := range []int{1, -1, p - 1, p + 1, -p - 1} {
				if size(unit) > greatest/power || unit%p == 0 {
					continue
				}
				v, e := integer.Valuation(power*unit, p)
				want(t, "Valuation", e, api.OK)
				want(t, fmt.Sprint("Valuation of ", power, " times ", unit, " at ", p), v, k+1)
			}
		}
	}
	v, e := integer.Valuation(least, 2)
	want(t, "Valuation of the least int", v, 63)
	want(t, "Valuation of the least int", e, api.OK)
	v, e = integer.Valuation(greatest, 7)
	want(t, "Valuation of the greatest int", v, 2)
	want(t, "Valuation of the greatest int", e, api.OK)
	for _, x := range []struct {
		n, p int
		e    api.Errno
	}{{0, 4, api.ErrPrime}, {0, 2, api.ErrZero}, {8, 1, api.ErrPrime}, {8, 0, api.ErrPrime}, {8, -2, api.ErrPrime}, {8, least, api.ErrPrime}, {1000000007, 1000000007, api.ErrPrime}} {
		v, e := integer.Valuation(x.n, x.p)
		want(t, fmt.Sprint("Valuation ", x.n, x.p), e, x.e)
		want(t, "beside the error", v, 0)
	}
}

// legendreOf is the Legendre symbol by a list of all squares.
func legendreOf(a, p int) int {
	a = mod(a, p)
	if a == 0 {
		return 0
	}
	for x := range p {
		if x*x%p == a {
			return 1
		}
	}
	return -1
}

func TestLegendre(t *testing.T) {
	for p := 3; p < 200; p += 2 {
		for a := -p - 3; a <= p+3; a++ {
			s, e := integer.Legendre(a, p)
			if !slowPrime(p) {
				want(t, "Legendre", e, api.ErrPrime)
				want(t, "beside the error", s, 0)
				continue
			}
			want(t, "Legendre", e, api.OK)
			want(t, fmt.Sprint("Legendre ", a, p), s, legendreOf(a, p))
		}
	}
	for _, p := range []int{99999989, 999999929, 999999937} {
		for _, a := range append(beside, 2, 5, 1234567, p, -p) {
			s, e := integer.Legendre(a, p)
			want(t, "Legendre", e, api.OK)
			want(t, fmt.Sprint("Legendre ", a, p), s, big.Jacobi(big.NewInt(int64(a)), big.NewInt(int64(p))))
		}
	}
	for _, p := range []int{least, -3, -1, 0, 1, 2, 4, 9, limit, 1000000007, greatest} {
		s, e := integer.Legendre(1, p)
		want(t, fmt.Sprint("Legendre at ", p), e, api.ErrPrime)
		want(t, "beside the error", s, 0)
	}
}

func TestJacobi(t *testing.T) {
	for n := 1; n < 250; n += 2 {
		for a := -n - 3; a <= n+3; a++ {
			product := 1
			for _, p := range slowFactors(n) {
				product *= legendreOf(a, p)
			}
			s, e := integer.Jacobi(a, n)
			want(t, "Jacobi", e, api.OK)
			want(t, fmt.Sprint("Jacobi ", a, n), s, product)
		}
	}
	for _, n := range []int{1, 3, limit - 1, 999999937, 3486784401 / 9} {
		for _, a := range beside {
			s, e := integer.Jacobi(a, n)
			want(t, "Jacobi", e, api.OK)
			want(t, fmt.Sprint("Jacobi ", a, n), s, big.Jacobi(big.NewInt(int64(a)), big.NewInt(int64(n))))
		}
	}
	for _, x := range []struct {
		n int
		e api.Errno
	}{{0, api.ErrRange}, {-1, api.ErrRange}, {-2, api.ErrRange}, {least, api.ErrRange}, {limit + 1, api.ErrRange}, {limit + 2, api.ErrRange}, {greatest, api.ErrRange}, {2, api.ErrForm}, {6, api.ErrForm}, {limit, api.ErrForm}} {
		s, e := integer.Jacobi(1, x.n)
		want(t, fmt.Sprint("Jacobi at ", x.n), e, x.e)
		want(t, "beside the error", s, 0)
	}
}

// solvable reports whether a x^2 + b y^2 = z^2 has a solution modulo m, a power of p, in which p does not divide all of x, y and z. Where neither a nor b is divisible by p^2, one modulo p^3 (2^6) stands for a solution in p-adic numbers.
func solvable(a, b, p, m int) bool {
	square := make([]bool, m)
	for z := range m {
		square[z*z%m] = true
	}
	for x := range m {
		for y := range m {
			// If p divides x and y, then p^2 divides z^2, and so p divides z too.
			if (x%p != 0 || y%p != 0) && square[mod(a*x*x+b*y*y, m)] {
				return true
			}
		}
	}
	return false
}

func TestHilbert(t *testing.T) {
	list := []int{1, -1, 2, -2, 3, -3, 5, -5, 6, -6, 7, -7, 10, -10, 14, -15, 21, -30, 35, 42}
	for p, m := range map[int]int{2: 64, 3: 27, 5: 125} {
		for _, a := range list {
			for _, b := range list {
				wanted := -1
				if solvable(a, b, p, m) {
					wanted = 1
				}
				// Squares change nothing.
				for _, scale := range []int{1, 2, 3, 5, 9, 20} {
					s, e := integer.Hilbert(a*scale*scale, b, p)
					want(t, "Hilbert", e, api.OK)
					want(t, fmt.Sprint("Hilbert ", a*scale*scale, b, p), s, wanted)
				}
			}
		}
	}
	for _, x := range [][4]int{
		{-1, -1, 0, -1}, {-1, 1, 0, 1}, {1, -1, 0, 1}, {1, 1, 0, 1}, {-limit, -limit, 0, -1}, {limit, -limit, 2, 1}, {limit, -limit, 5, 1},
		{7, 3, 7, -1}, {7, 7, 7, -1}, {13, 13, 13, 1}, {999999937, 5, 999999937, -1}, {999999937, -1, 999999937, 1}, {3, 5, 7, 1},
	} {
		s, e := integer.Hilbert(x[0], x[1], x[2])
		want(t, "Hilbert", e, api.OK)
		want(t, fmt.Sprint("Hilbert ", x[:3]), s, x[3])
	}
}

func TestErrorsOfHilbert(t *testing.T) {
	for _, x := range []struct {
		a, b, p int
		e       api.Errno
	}{
		{0, 1, 2, api.ErrZero}, {1, 0, 2, api.ErrZero}, {0, limit + 1, 4, api.ErrZero}, {least, 0, 4, api.ErrZero}, {0, 0, 0, api.ErrZero},
		{limit + 1, 1, 4, api.ErrRange}, {1, -limit - 1, 2, api.ErrRange}, {least, 1, 0, api.ErrRange}, {1, greatest, 0, api.ErrRange},
		{1, 1, 4, api.ErrPrime}, {1, 1, 1, api.ErrPrime}, {1, 1, -1, api.ErrPrime}, {1, 1, -2, api.ErrPrime}, {limit, -limit, 1000000007, api.ErrPrime}, {1, 1, least, api.ErrPrime},
	} {
		s, e := integer.Hilbert(x.a, x.b, x.p)
		want(t, fmt.Sprint("Hilbert ", x.a, x.b, x.p), e, x.e)
		want(t, "beside the error", s, 0)
	}
}
