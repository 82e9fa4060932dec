package brandt

import (
	"fourfold/api"
	"fourfold/integer"
)

// sixfold returns what the reduced forms a x^2 + b x y + c y^2 and a x^2 - b x y + c y^2, for b from 0 to a and a up to c, count together, times 6.
func sixfold(a, b, c int) int {
	switch {
	case b == 0 && a == c:
		return 3
	case b == a && a == c:
		return 2
	case b == 0 || b == a || a == c: // the two are the same, or equivalent
		return 6
	}
	return 12
}

// classNumber returns six times H(d), for positive d.
func classNumber(d int) int {
	total := 0
	for b := 0; 3*b*b <= d; b++ { // b^2 <= a^2 <= a c
		if (d+b*b)%4 != 0 {
			continue
		}
		product := (d + b*b) / 4
		for a := max(b, 1); a*a <= product; a++ {
			if product%a == 0 {
				total += sixfold(a, b, product/a)
			}
		}
	}
	return total
}

// ClassNumber returns H(d).
func ClassNumber(d int) (api.Frac, api.Errno) {
	const most = 1000000
	if d < 0 || d > most {
		return api.Frac{}, api.ErrRange
	}
	if d == 0 {
		return api.Frac{Num: -1, Den: 12}, api.OK
	}
	return fraction(classNumber(d), 6), api.OK
}

// conductor returns the conductor of -d, for positive d that is 0 or 3 modulo 4.
func conductor(d int) int {
	greatest := 1
	for f := 2; f*f <= d; f++ {
		if rest := d / (f * f); rest*f*f == d && (rest%4 == 0 || rest%4 == 3) {
			greatest = f
		}
	}
	return greatest
}

// symbol returns the symbol of -d over the prime p.
func symbol(d, p int) int {
	if p > 2 {
		s, _ := integer.Legendre(-d, p)
		return s
	}
	switch d % 8 {
	case 7:
		return 1
	case 3:
		return -1
	}
	return 0
}

// embeddings returns 24 times H(p, d), for d that is 0 or 3 modulo 4.
func embeddings(p, d int) int {
	if d == 0 {
		return p - 1
	}
	for f := conductor(d); f%p == 0; f /= p {
		d /= p * p
	}
	return 2 * classNumber(d) * (1 - symbol(d, p))
}

// Trace returns the sum of the H(p, 4 n - s^2).
func Trace(p, n int) (api.Frac, api.Errno) {
	const most = 1000
	if n < 1 || n > most || p < 2 || p > most {
		return api.Frac{}, api.ErrRange
	}
	if !integer.IsPrime(p) {
		return api.Frac{}, api.ErrPrime
	}
	total := embeddings(p, 4*n)
	for s := 1; s*s <= 4*n; s++ {
		total += 2 * embeddings(p, 4*n-s*s)
	}
	return fraction(total, 24), api.OK
}
