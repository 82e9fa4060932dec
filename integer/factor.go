package integer

import (
	"slices"

	"fourfold/api"
)

// factor returns the primes that divide n, which is positive, with their exponents.
func factor(n int) []api.Power {
	var powers []api.Power
	p := 2
	for n > 1 {
		p = leastDivisor(n, p)
		rest, exponent := strip(n, p)
		powers = append(powers, api.Power{Prime: p, Exponent: exponent})
		n = rest
	}
	return powers
}

// Factor returns the primes that divide n, with their exponents.
func Factor(n int) ([]api.Power, api.Errno) {
	if !isModulus(n) {
		return nil, api.ErrRange
	}
	return factor(n), api.OK
}

// CheckFactor accepts the primes that divide n, their exponents, and a proof for each of them.
func CheckFactor(n int, l []api.Power, proofs [][]api.Step) api.Errno {
	if !isModulus(n) {
		return api.ErrRange
	}
	if len(l) != len(proofs) {
		return api.ErrProof
	}
	rest, last := n, 0
	for i, f := range l {
		if f.Prime <= last || f.Exponent < 1 || CheckPrime(f.Prime, proofs[i]) != api.OK {
			return api.ErrProof
		}
		left, exponent := strip(rest, f.Prime)
		if exponent != f.Exponent {
			return api.ErrProof
		}
		rest, last = left, f.Prime
	}
	if rest != 1 {
		return api.ErrProof
	}
	return api.OK
}

// Divisors returns all positive divisors of n.
func Divisors(n int) ([]int, api.Errno) {
	if !isModulus(n) {
		return nil, api.ErrRange
	}
	divisors := []int{1}
	for _, f := range factor(n) {
		times := divisors
		for range f.Exponent {
			var more []int
			for _, d := range times {
				more = append(more, d*f.Prime)
			}
			divisors = append(divisors, more...)
			times = more
		}
	}
	slices.Sort(divisors)
	return divisors, api.OK
}
