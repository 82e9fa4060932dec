package exact

import (
	"fourfold/api"
	"fourfold/integer"
)

// Fraction is Num / Den in lowest terms. Its numbers are of any size and in normal form; Den is positive.
type Fraction struct{ Num, Den api.Int }

// Quotient returns num / den, for den that is positive.
func Quotient(num, den api.Int) Fraction {
	g := integer.Gcd(num, den)
	return Fraction{Floor(num, g), Floor(den, g)}
}

// Whole returns n.
func Whole(n int) Fraction {
	return Fraction{integer.Of(n), integer.Of(1)}
}

// Times returns f g.
func (f Fraction) Times(g Fraction) Fraction {
	return Quotient(integer.Mul(f.Num, g.Num), integer.Mul(f.Den, g.Den))
}

// Over returns f / g, for positive g.
func (f Fraction) Over(g Fraction) Fraction {
	return f.Times(Fraction{g.Den, g.Num})
}

// Cmp returns -1, 0 or 1, as f is less than, equal to or greater than g.
func (f Fraction) Cmp(g Fraction) int {
	return integer.Cmp(integer.Mul(f.Num, g.Den), integer.Mul(g.Num, f.Den))
}

// Frac returns f as a fraction of ints, or ErrLarge if a number of it is none.
func (f Fraction) Frac() (api.Frac, api.Errno) {
	num, ok := integer.Small(f.Num)
	den, fits := integer.Small(f.Den)
	if !ok || !fits {
		return api.Frac{}, api.ErrLarge
	}
	return api.Frac{Num: num, Den: den}, api.OK
}
