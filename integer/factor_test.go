package integer_test

import (
	"fmt"
	"slices"
	"testing"

	"fourfold/api"
	"fourfold/integer"
)

// The tests of this file are those of P1.6.

// powersOf is the factorization by a list of all factors.
func powersOf(n int) []api.Power {
	var powers []api.Power
	for _, p := range slowFactors(n) {
		if k := len(powers); k > 0 && powers[k-1].Prime == p {
			powers[k-1].Exponent++
		} else {
			powers = append(powers, api.Power{Prime: p, Exponent: 1})
		}
	}
	return powers
}

// beyond are numbers that are not factored.
var beyond = []int{least, -limit, -12, -1, 0, limit + 1, greatest}

func TestFactor(t *testing.T) {
	list := []int{limit, limit - 1, limit - 63, 1 << 29, 387420489, 31607 * 31607, 2 * 499999993, 223092870, 735134400}
	for n := 1; n <= 3000; n++ {
		list = append(list, n)
	}
	for _, n := range list {
		powers, e := integer.Factor(n)
		want(t, "Factor", e, api.OK)
		wantList(t, fmt.Sprint("Factor ", n), powers, powersOf(n))
	}
	for _, n := range beyond {
		powers, e := integer.Factor(n)
		want(t, fmt.Sprint("Factor ", n), e, api.ErrRange)
		wantList(t, "beside the error", powers, nil)
	}
}

func TestDivisors(t *testing.T) {
	for n := 1; n <= 1500; n++ {
		var wanted []int
		for d := 1; d <= n; d++ {
			if n%d == 0 {
				wanted = append(wanted, d)
			}
		}
		divisors, e := integer.Divisors(n)
		want(t, "Divisors", e, api.OK)
		wantList(t, fmt.Sprint("Divisors ", n), divisors, wanted)
	}
	for n, count := range map[int]int{735134400: 1344, limit: 100, 1 << 29: 30, 999999937: 2, 31607 * 31607: 3} {
		divisors, e := integer.Divisors(n)
		want(t, "Divisors", e, api.OK)
		want(t, fmt.Sprint("how many divisors has ", n), len(divisors), count)
		for i, d := range divisors {
			if n%d != 0 || i > 0 && divisors[i-1] >= d {
				t.Errorf("Divisors(%d): %d", n, d)
			}
		}
	}
	for _, n := range beyond {
		divisors, e := integer.Divisors(n)
		want(t, fmt.Sprint("Divisors ", n), e, api.ErrRange)
		wantList(t, "beside the error", divisors, nil)
	}
}

// product is primes with their exponents.
func product(list ...int) []api.Power {
	var powers []api.Power
	for pair := range slices.Chunk(list, 2) {
		powers = append(powers, api.Power{Prime: pair[0], Exponent: pair[1]})
	}
	return powers
}

// proofsOf is a proof for each of the primes.
func proofsOf(powers []api.Power) [][]api.Step {
	var proofs [][]api.Step
	for _, f := range powers {
		proofs = append(proofs, standard(f.Prime))
	}
	return proofs
}

func TestFactorizationsThatAreAccepted(t *testing.T) {
	list := []int{limit, limit - 1, limit - 63, 1 << 29, 31607 * 31607, 223092870}
	for n := 1; n <= 400; n++ {
		list = append(list, n)
	}
	for _, n := range list {
		powers := powersOf(n)
		want(t, fmt.Sprint("CheckFactor ", n), integer.CheckFactor(n, powers, proofsOf(powers)), api.OK)
		wantList(t, "the argument of CheckFactor", powers, powersOf(n))
	}
	other := []api.Step{two, five, three, {N: 7, Root: 5, Primes: []int{2, 3}}}
	want(t, "CheckFactor with another proof", integer.CheckFactor(49, product(7, 2), [][]api.Step{other}), api.OK)
}

func TestFactorizationsThatAreRefused(t *testing.T) {
	a, b, c := standard(2), standard(3), standard(5)
	long := slices.Repeat(a, api.MaxProof+1)
	for _, x := range []struct {
		what   string
		n      int
		l      []api.Power
		proofs [][]api.Step
	}{
		{"nothing", 2, nil, nil},
		{"a prime too many", 1, product(2, 1), [][]api.Step{a}},
		{"a prime to the power 0", 1, product(2, 0), [][]api.Step{a}},
		{"a prime to the power 0 among others", 12, product(2, 2, 3, 1, 5, 0), [][]api.Step{a, b, c}},
		{"a negative exponent", 12, product(2, 2, 3, 1, 5, -1), [][]api.Step{a, b, c}},
		{"an exponent that is too small", 12, product(2, 1, 3, 1), [][]api.Step{a, b}},
		{"an exponent that is too great", 12, product(2, 3, 3, 1), [][]api.Step{a, b}},
		{"the greatest exponent", 12, product(2, greatest, 3, 1), [][]api.Step{a, b}},
		{"a power that is 0 among machine integers", 1, product(2, 64), [][]api.Step{a}},
		{"primes that descend", 12, product(3, 1, 2, 2), [][]api.Step{b, a}},
		{"a prime twice", 12, product(2, 1, 2, 1, 3, 1), [][]api.Step{a, a, b}},
		{"a prime is missing", 12, product(2, 2), [][]api.Step{a}},
		{"a prime that does not divide", 12, product(2, 2, 3, 1, 5, 1), [][]api.Step{a, b, c}},
		{"a composite number", 12, product(3, 1, 4, 1), [][]api.Step{b, a}},
		{"1 to the greatest power", 12, product(1, greatest, 2, 2, 3, 1), [][]api.Step{{{N: 1, Root: 1}}, a, b}},
		{"0", 12, product(0, 1), [][]api.Step{{{}}}},
		{"negative primes", 12, product(-3, 1, -2, 2), [][]api.Step{b, a}},
		{"no proofs", 12, product(2, 2, 3, 1), nil},
		{"a proof too few", 12, product(2, 2, 3, 1), [][]api.Step{a}},
		{"a proof too many", 12, product(2, 2, 3, 1), [][]api.Step{a, b, c}},
		{"a proof too many", 1, nil, [][]api.Step{a}},
		{"proofs in another order", 12, product(2, 2, 3, 1), [][]api.Step{b, a}},
		{"an empty proof", 12, product(2, 2, 3, 1), [][]api.Step{a, nil}},
		{"a proof with many steps", 2, product(2, 1), [][]api.Step{long}},
		{"another number", 11, product(2, 2, 3, 1), [][]api.Step{a, b}},
		{"a multiple", 24, product(2, 2, 3, 1), [][]api.Step{a, b}},
	} {
		want(t, fmt.Sprint("CheckFactor with ", x.what, ": ", x.n), integer.CheckFactor(x.n, x.l, x.proofs), api.ErrProof)
	}
	for _, n := range beyond {
		want(t, fmt.Sprint("CheckFactor ", n), integer.CheckFactor(n, nil, nil), api.ErrRange)
		want(t, fmt.Sprint("CheckFactor ", n), integer.CheckFactor(n, product(4, 1), nil), api.ErrRange)
	}
}
