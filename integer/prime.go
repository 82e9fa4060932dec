package integer

import (
	"slices"

	"fourfold/api"
)

// leastDivisor returns the least divisor of n above 1, where n is above 1 and none is less than from, which is 2 or odd.
func leastDivisor(n, from int) int {
	for d := from; d*d <= n; d += 1 + d%2 {
		if n%d == 0 {
			return d
		}
	}
	return n
}

// IsPrime reports whether n is a prime.
func IsPrime(n int) bool {
	return n >= 2 && n <= api.MaxModulus && leastDivisor(n, 2) == n
}

// Certify returns the standard proof that n is prime.
func Certify(n int) ([]api.Step, api.Errno) {
	if !IsPrime(n) {
		return nil, api.ErrPrime
	}
	steps := map[int]api.Step{}
	var prove func(p int)
	prove = func(p int) {
		if _, done := steps[p]; done {
			return
		}
		var primes []int
		for _, f := range factor(p - 1) {
			primes = append(primes, f.Prime)
		}
		steps[p] = api.Step{N: p, Root: leastRoot(p, primes), Primes: primes}
		for _, q := range primes {
			prove(q)
		}
	}
	prove(n)
	var numbers []int
	for p := range steps {
		numbers = append(numbers, p)
	}
	slices.Sort(numbers)
	var proof []api.Step
	for _, p := range numbers {
		proof = append(proof, steps[p])
	}
	return proof, api.OK
}

// leastRoot returns the least primitive root modulo the prime p, where primes are those that divide p - 1.
func leastRoot(p int, primes []int) int {
	root := 1
	for !isPrimitive(root, p, primes) {
		root++
	}
	return root
}

// isPrimitive reports whether root^(n - 1) is congruent to 1 modulo n, and root^((n - 1)/q) is not, for each q of primes.
func isPrimitive(root, n int, primes []int) bool {
	early := func(q int) bool { return power(root, (n-1)/q, n) == 1 }
	return power(root, n-1, n) == 1 && !slices.ContainsFunc(primes, early)
}

// CheckPrime accepts any proof that n is prime.
func CheckPrime(n int, l []api.Step) api.Errno {
	if len(l) > api.MaxProof {
		return api.ErrLarge
	}
	if len(l) == 0 || l[len(l)-1].N != n {
		return api.ErrProof
	}
	earlier := map[int]api.Step{}
	for _, s := range l {
		if !follows(s, earlier) {
			return api.ErrProof
		}
		earlier[s.N] = s
	}
	return api.OK
}

// follows reports whether a step of a proof is right, with earlier ones that are.
func follows(s api.Step, earlier map[int]api.Step) bool {
	if s.N < 2 || !isModulus(s.N) || s.Root < 1 || s.Root >= s.N {
		return false
	}
	rest, last := s.N-1, 0
	wrong := func(q int) bool {
		_, proved := earlier[q]
		if !proved || q <= last || rest%q != 0 {
			return true
		}
		rest, _ = strip(rest, q)
		last = q
		return false
	}
	if slices.ContainsFunc(s.Primes, wrong) || rest != 1 {
		return false
	}
	return isPrimitive(s.Root, s.N, s.Primes)
}
