package integer

import (
	"slices"

	"fourfold/api"
)

// primePower returns p^k, or the error of the prime power.
func primePower(p, k int) (int, api.Errno) {
	if !IsPrime(p) {
		return 0, api.ErrPrime
	}
	if k < 1 {
		return 0, api.ErrRange
	}
	q := 1
	for range k {
		q *= p
		if q > api.MaxModulus {
			return 0, api.ErrRange
		}
	}
	return q, api.OK
}

// raise returns p^k, where it is at most MaxModulus.
func raise(p, k int) int {
	q := 1
	for range k {
		q *= p
	}
	return q
}

// Roots returns the residues modulo p^k whose square is congruent to a.
func Roots(a, p, k int) ([]int, api.Errno) {
	q, e := primePower(p, k)
	if e != api.OK {
		return nil, e
	}
	first, step := firstRoots(residue(a, q), p, k, q)
	if len(first)*(q/step) > api.MaxRoots {
		return nil, api.ErrLarge
	}
	var roots []int
	for from := 0; from < q; from += step {
		for _, x := range first {
			roots = append(roots, from+x)
		}
	}
	return roots, api.OK
}

// firstRoots returns the roots of a modulo q = p^k that are less than step, a divisor of q; the others are congruent to them modulo step.
func firstRoots(a, p, k, q int) (first []int, step int) {
	if a == 0 {
		return []int{0}, raise(p, k-k/2)
	}
	unit, exponent := strip(a, p)
	if exponent%2 == 1 {
		return nil, q
	}
	// The roots are scale y, where y^2 is congruent to unit modulo part.
	scale := raise(p, exponent/2)
	part := q / scale / scale
	if p == 2 {
		first = unitRootsAtTwo(unit, part)
	} else {
		first = unitRoots(unit, p, part)
	}
	for i := range first {
		first[i] *= scale
	}
	return first, part * scale
}

// unitRootsAtTwo returns the roots of an odd number modulo q, a power of 2 from 2 on.
func unitRootsAtTwo(unit, q int) []int {
	roots := []int{1}
	for m := 2; m < q; m *= 2 {
		var next []int
		for _, r := range roots {
			for _, x := range [2]int{r, r + m} {
				if (x*x-unit)%(2*m) == 0 {
					next = append(next, x)
				}
			}
		}
		roots = next
	}
	slices.Sort(roots)
	return roots
}

// unitRoots returns the roots of unit modulo q, a power of the odd prime p, which does not divide unit.
func unitRoots(unit, p, q int) []int {
	if jacobi(unit, p) != 1 {
		return nil
	}
	r := lift(unit, q, rootModPrime(unit, p))
	roots := []int{r, q - r}
	slices.Sort(roots)
	return roots
}

// rootModPrime returns a root of a modulo the odd prime p, where a is congruent to a square that p does not divide.
func rootModPrime(a, p int) int {
	odd, twos := strip(p-1, 2)
	nonresidue := 2
	for jacobi(nonresidue, p) != -1 {
		nonresidue++
	}
	// The square of x is always a b; b is 1 after its order, a power of 2, has been halved often enough.
	x, b := power(a, (odd+1)/2, p), power(a, odd, p)
	c := power(nonresidue, odd, p) // of the order 2^twos
	for b != 1 {
		k := 0
		for t := b; t != 1; t = t * t % p {
			k++
		}
		by := power(c, 1<<(twos-k-1), p)
		x = x * by % p
		c = by * by % p
		b = b * c % p
		twos = k
	}
	return x
}

// lift returns the root of a modulo q that is congruent to the root x modulo the odd prime of which q is a power, and which does not divide x; a is a residue modulo q.
func lift(a, q, x int) int {
	// Each of Newton's steps doubles the power of the prime that divides x^2 - a.
	for residue(x*x-a, q) != 0 {
		_, inverse := cofactor(residue(2*x, q), q)
		x = residue(x-residue(x*x-a, q)*residue(inverse, q), q)
	}
	return x
}

// Lift returns the only root of a modulo p^k that is congruent to r modulo p.
func Lift(a, p, k, r int) (int, api.Errno) {
	q, e := primePower(p, k)
	if e != api.OK {
		return 0, e
	}
	if p == 2 {
		return 0, api.ErrPrime
	}
	a = residue(a, q)
	r = residue(r, p)
	if r == 0 || residue(r*r-a, p) != 0 {
		return 0, api.ErrForm
	}
	return lift(a, q, r), api.OK
}
