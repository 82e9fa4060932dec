package brandt

import "fourfold/api"

// checkFraction returns the error of a fraction.
func checkFraction(x api.Frac) api.Errno {
	const most = 1000000000
	if x.Den < 1 {
		return api.ErrForm
	}
	if x.Num < -most || x.Num > most || x.Den > most {
		return api.ErrLarge
	}
	return api.OK
}

// isLess reports whether x is less than y, for fractions without an error: their numbers are so small that the products are ints.
func isLess(x, y api.Frac) bool {
	return x.Num*y.Den < y.Num*x.Den
}
