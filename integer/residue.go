package integer

import (
	"slices"

	"fourfold/api"
)

// isModulus reports whether m is a modulus.
func isModulus(m int) bool {
	return m >= 1 && m <= api.MaxModulus
}

// withinModulus reports whether n is from -MaxModulus to MaxModulus.
func withinModulus(n int) bool {
	return n >= -api.MaxModulus && n <= api.MaxModulus
}

// residue returns the residue of a modulo m, which is positive.
func residue(a, m int) int {
	r := a % m
	if r < 0 {
		r += m
	}
	return r
}

// cofactor returns the greatest common divisor g of a and m, and x with a x congruent to g modulo m, for a and m that are not negative.
func cofactor(a, m int) (g, x int) {
	g, rest := a, m
	x, next := 1, 0
	for rest != 0 {
		q := g / rest
		g, rest = rest, g-q*rest
		x, next = next, x-q*next
	}
	return g, x
}

// power returns the residue of a^n modulo the modulus m, for n that is not negative.
func power(a, n, m int) int {
	result, square := residue(1, m), residue(a, m)
	for n > 0 {
		if n%2 == 1 {
			result = result * square % m
		}
		square = square * square % m
		n /= 2
	}
	return result
}

// Bezout returns the greatest common divisor g of a and b, and x and y with a x + b y = g, with the least x that is not negative where b is not 0.
func Bezout(a, b int) (g, x, y int, e api.Errno) {
	switch {
	case !withinModulus(a) || !withinModulus(b):
		return 0, 0, 0, api.ErrRange
	case a == 0 && b == 0:
		return 0, 0, 0, api.ErrZero
	case b == 0 && a < 0:
		return -a, -1, 0, api.OK
	case b == 0:
		return a, 1, 0, api.OK
	}
	size := b
	if b < 0 {
		size = -b
	}
	g, x = cofactor(residue(a, size), size)
	x = residue(x, size/g)
	return g, x, (g - a*x) / b, api.OK
}

// Inverse returns the residue x with a x congruent to 1 modulo m.
func Inverse(a, m int) (int, api.Errno) {
	if !isModulus(m) {
		return 0, api.ErrRange
	}
	g, x := cofactor(residue(a, m), m)
	if g != 1 {
		return 0, api.ErrNone
	}
	return residue(x, m), api.OK
}

// Power returns the residue of a^n modulo m.
func Power(a, n, m int) (int, api.Errno) {
	if n < 0 || !isModulus(m) {
		return 0, api.ErrRange
	}
	return power(a, n, m), api.OK
}

// Chinese returns the residue that stands for all residues of l at once.
func Chinese(l []api.Residue) (api.Residue, api.Errno) {
	const most = 20
	if len(l) > most {
		return api.Residue{}, api.ErrLarge
	}
	if slices.ContainsFunc(l, func(r api.Residue) bool { return !isModulus(r.M) }) {
		return api.Residue{}, api.ErrRange
	}
	for i, r := range l {
		if slices.ContainsFunc(l[:i], func(earlier api.Residue) bool { return contradict(earlier, r) }) {
			return api.Residue{}, api.ErrNone
		}
	}
	all := api.Residue{R: 0, M: 1}
	for _, r := range l {
		all = join(all, r)
		if all.M > api.MaxModulus {
			return api.Residue{}, api.ErrLarge
		}
	}
	return all, api.OK
}

// contradict reports whether no number is congruent to both residues.
func contradict(a, b api.Residue) bool {
	g, _ := cofactor(a.M, b.M)
	return residue(a.R, g) != residue(b.R, g)
}

// join returns the residue that stands for a and b, which do not contradict each other; a is reduced, and so is the result.
func join(a, b api.Residue) api.Residue {
	g, x := cofactor(a.M, b.M)
	m := b.M / g
	difference := residue((residue(b.R, b.M)-a.R)/g, m)
	steps := difference * residue(x, m) % m
	return api.Residue{R: a.R + a.M*steps, M: a.M * m}
}
