package algebra

import "fourfold/api"

// commonDivisor returns the greatest common divisor, not negative.
func commonDivisor(list ...int) int {
	g := 0
	for _, n := range list {
		for n != 0 {
			g, n = n, g%n
		}
	}
	if g < 0 {
		return -g
	}
	return g
}

// fraction returns num/den in lowest terms; den is positive.
func fraction(num, den int) api.Frac {
	g := commonDivisor(num, den)
	return api.Frac{Num: num / g, Den: den / g}
}

// isFraction reports whether a fraction is valid as an argument.
func isFraction(f api.Frac) bool {
	const most = 1000000000
	return f.Den != 0 && isWithin(f.Num, most) && isWithin(f.Den, most)
}
