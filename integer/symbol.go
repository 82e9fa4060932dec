package integer

import "fourfold/api"

// strip returns n without its factors p, and their number, for n that is not 0 and p above 1.
func strip(n, p int) (rest, exponent int) {
	rest = n
	for rest%p == 0 {
		rest /= p
		exponent++
	}
	return rest, exponent
}

// isOddPrime reports whether p is an odd prime.
func isOddPrime(p int) bool {
	return p != 2 && IsPrime(p)
}

// jacobi returns the Jacobi symbol of a and the odd modulus n.
func jacobi(a, n int) int {
	symbol := 1
	a = residue(a, n)
	for a != 0 {
		rest, twos := strip(a, 2)
		if twos%2 == 1 && (n%8 == 3 || n%8 == 5) {
			symbol = -symbol
		}
		if rest%4 == 3 && n%4 == 3 {
			symbol = -symbol
		}
		a, n = n%rest, rest
	}
	if n > 1 {
		return 0
	}
	return symbol
}

// Valuation returns the greatest k for which p^k divides n.
func Valuation(n, p int) (int, api.Errno) {
	if !IsPrime(p) {
		return 0, api.ErrPrime
	}
	if n == 0 {
		return 0, api.ErrZero
	}
	_, k := strip(n, p)
	return k, api.OK
}

// Legendre returns the Legendre symbol of a and p.
func Legendre(a, p int) (int, api.Errno) {
	if !isOddPrime(p) {
		return 0, api.ErrPrime
	}
	return jacobi(a, p), api.OK
}

// Jacobi returns the Jacobi symbol of a and n.
func Jacobi(a, n int) (int, api.Errno) {
	if !isModulus(n) {
		return 0, api.ErrRange
	}
	if n%2 == 0 {
		return 0, api.ErrForm
	}
	return jacobi(a, n), api.OK
}

// Hilbert returns the Hilbert symbol of a and b at p, or at the real place for p = 0.
func Hilbert(a, b, p int) (int, api.Errno) {
	switch {
	case a == 0 || b == 0:
		return 0, api.ErrZero
	case !withinModulus(a) || !withinModulus(b):
		return 0, api.ErrRange
	case p == 0:
		return minusOneIf(a < 0 && b < 0), api.OK
	case p == 2:
		return hilbertAtTwo(a, b), api.OK
	case !IsPrime(p):
		return 0, api.ErrPrime
	}
	return hilbertAtOdd(a, b, p), api.OK
}

// minusOneIf returns -1 if it is so, and otherwise 1.
func minusOneIf(so bool) int {
	if so {
		return -1
	}
	return 1
}

// hilbertAtTwo returns the Hilbert symbol at 2.
func hilbertAtTwo(a, b int) int {
	u, i := strip(a, 2)
	v, j := strip(b, 2)
	u, v = residue(u, 8), residue(v, 8)
	symbol := minusOneIf(u%4 == 3 && v%4 == 3)
	symbol *= minusOneIf(i%2 == 1 && (v == 3 || v == 5))
	symbol *= minusOneIf(j%2 == 1 && (u == 3 || u == 5))
	return symbol
}

// hilbertAtOdd returns the Hilbert symbol at an odd prime.
func hilbertAtOdd(a, b, p int) int {
	u, i := strip(a, p)
	v, j := strip(b, p)
	symbol := minusOneIf(i%2 == 1 && j%2 == 1 && p%4 == 3)
	if i%2 == 1 {
		symbol *= jacobi(v, p)
	}
	if j%2 == 1 {
		symbol *= jacobi(u, p)
	}
	return symbol
}
