package algebra_test

import (
	"fmt"
	"slices"
	"testing"

	"fourfold/algebra"
	"fourfold/api"
	"fourfold/integer"
)

// The tests of this file are those of P3.5.

// wantPlaces checks Ramified, Discriminant and Definite.
func wantPlaces(t *testing.T, a api.Algebra, primes []int, infinite bool) {
	t.Helper()
	got, at := places(t, a)
	wantResult(t, fmt.Sprint("Ramified ", a), got, api.OK, primes, api.OK)
	want(t, fmt.Sprint("Ramified at infinity ", a), at, infinite)
	product := 1
	for _, p := range primes {
		product *= p
	}
	d, e := algebra.Discriminant(a)
	wantResult(t, fmt.Sprint("Discriminant ", a), d, e, product, api.OK)
	definite, e := algebra.Definite(a)
	wantResult(t, fmt.Sprint("Definite ", a), definite, e, infinite, api.OK)
}

func TestKnownAlgebras(t *testing.T) {
	for _, x := range []struct {
		a, b     int
		primes   []int
		infinite bool
	}{
		{-1, -1, []int{2}, true}, {-2, -2, []int{2}, true}, {-1, -2, []int{2}, true}, {-1, -3, []int{3}, true}, {-1, -11, []int{11}, true},
		{-1, 3, []int{2, 3}, false}, {3, -1, []int{2, 3}, false}, {2, 5, []int{2, 5}, false}, {-1, 7, []int{2, 7}, false}, {-2, -5, []int{5}, true}, {2, -11, []int{2, 11}, false},
		{1, 5, nil, false}, {-1, 2, nil, false}, {1, 1, nil, false}, {1, -1, nil, false}, {-1, 1, nil, false}, {-1, 1000, nil, false}, {-4, 4, nil, false},
		{-4, -9, []int{2}, true}, {-900, -900, []int{2}, true}, {-1, 27, []int{2, 3}, false}, {-100, 12, []int{2, 3}, false},
		{-2 * 3 * 5 * 7, -11 * 13 * 5, []int{2, 3, 7, 11, 13}, true}, {997, 2, []int{2, 997}, false}, {-1, -997, []int{2}, true}, {-1000, -1000, []int{2}, true},
	} {
		wantPlaces(t, api.Algebra{A: x.a, B: x.b}, x.primes, x.infinite)
	}
}

func TestAlgebrasOfPrimes(t *testing.T) {
	for p := 2; p <= api.MaxParam; p++ {
		if !slices.Equal(factors(p), []int{p}) {
			continue
		}
		switch {
		case p%4 == 3:
			wantPlaces(t, api.Algebra{A: -1, B: -p}, []int{p}, true)
			wantPlaces(t, api.Algebra{A: p, B: -1}, []int{2, p}, false)
		case p%8 == 5:
			wantPlaces(t, api.Algebra{A: -2, B: -p}, []int{p}, true)
			wantPlaces(t, api.Algebra{A: p, B: 2}, []int{2, p}, false)
		default:
			wantPlaces(t, api.Algebra{A: -1, B: -p}, []int{2}, true)
			wantPlaces(t, api.Algebra{A: -1, B: p}, nil, false)
		}
	}
}

// solvable reports whether a x^2 + b y^2 = z^2 has a solution modulo m in which p does not divide all of x, y and z. Where neither a nor b is divisible by p^2, one modulo m = p^3 (2^6) stands for a solution in p-adic numbers.
func solvable(a, b, p, m int) bool {
	square := make([]bool, m)
	for z := range m {
		square[z*z%m] = true
	}
	for x := range m {
		for y := range m {
			if (x%p != 0 || y%p != 0) && square[((a*x*x+b*y*y)%m+m)%m] {
				return true
			}
		}
	}
	return false
}

func TestRamificationByEquations(t *testing.T) {
	powers := map[int]int{2: 64, 3: 27, 5: 125, 7: 343, 11: 1331}
	list := []int{1, -1, 2, -2, 3, -3, 5, -6, 7, -7, 10, -11, 14, -15, 21, 22, -30, 42}
	for _, a := range list {
		for _, b := range list {
			var primes []int
			for _, p := range factors(2 * a * b) {
				if !solvable(a, b, p, powers[p]) {
					primes = append(primes, p)
				}
			}
			infinite := a < 0 && b < 0
			wantPlaces(t, api.Algebra{A: a, B: b}, primes, infinite)
			wantPlaces(t, api.Algebra{A: 4 * a, B: b}, primes, infinite)
			wantPlaces(t, api.Algebra{A: 9 * a, B: 16 * b}, primes, infinite)
		}
	}
}

func TestRamificationBySymbols(t *testing.T) {
	n := numbers(9)
	for range 2000 {
		a := n.algebra()
		var primes []int
		for _, p := range factors(2 * a.A * a.B) {
			symbol, e := integer.Hilbert(a.A, a.B, p)
			want(t, "Hilbert", e, api.OK)
			if symbol == -1 {
				primes = append(primes, p)
			}
		}
		wantPlaces(t, a, primes, a.A < 0 && a.B < 0)
	}
}
