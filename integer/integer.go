// Package integer computes with integers of several words, with residues and symbols, and with primes and factorizations that are certified. It is chapter 1: see shared/doc/01-integer.md.
package integer

import (
	"cmp"
	"slices"

	"fourfold/api"
)

// signed returns the integer with these words, in normal form. It keeps their memory.
func signed(neg bool, w []uint32) api.Int {
	w = trim(w)
	if len(w) == 0 {
		return api.Int{}
	}
	return api.Int{Neg: neg, Words: w}
}

// sign returns -1, 0 or 1.
func sign(x api.Int) int {
	switch {
	case len(trim(x.Words)) == 0:
		return 0
	case x.Neg:
		return -1
	}
	return 1
}

// Of returns n as an integer of several words.
func Of(n int) api.Int {
	size := uint64(n)
	if n < 0 {
		size = -size
	}
	return signed(n < 0, []uint32{uint32(size), uint32(size >> 32)})
}

// Small returns the value of x, if it is an int.
func Small(x api.Int) (int, bool) {
	w := trim(x.Words)
	if len(w) > 2 {
		return 0, false
	}
	size := uint64(0)
	for i, word := range w {
		size |= uint64(word) << (32 * i)
	}
	const half = 1 << 63
	if x.Neg && size <= half {
		return int(-size), true
	}
	if size < half {
		return int(size), true
	}
	return 0, false
}

// Normal returns the normal form of x.
func Normal(x api.Int) api.Int {
	return signed(x.Neg, slices.Clone(x.Words))
}

// Add returns x + y.
func Add(x, y api.Int) api.Int {
	a, b := trim(x.Words), trim(y.Words)
	switch {
	case x.Neg == y.Neg:
		return signed(x.Neg, addWords(a, b))
	case compareWords(a, b) >= 0:
		return signed(x.Neg, subWords(a, b))
	}
	return signed(y.Neg, subWords(b, a))
}

// Sub returns x - y.
func Sub(x, y api.Int) api.Int {
	return Add(x, api.Int{Neg: !y.Neg, Words: y.Words})
}

// Mul returns x y.
func Mul(x, y api.Int) api.Int {
	return signed(x.Neg != y.Neg, mulWords(trim(x.Words), trim(y.Words)))
}

// DivMod returns q and r with x = q y + r and 0 <= r < |y|.
func DivMod(x, y api.Int) (q, r api.Int, e api.Errno) {
	divisor := trim(y.Words)
	if len(divisor) == 0 {
		return api.Int{}, api.Int{}, api.ErrZero
	}
	quotient, rest := divideWords(trim(x.Words), divisor)
	if x.Neg && len(rest) > 0 {
		quotient = addWords(quotient, []uint32{1})
		rest = subWords(divisor, rest)
	}
	return signed(x.Neg != y.Neg, quotient), signed(false, rest), api.OK
}

// Cmp returns -1, 0 or 1, as x is less than, equal to or greater than y.
func Cmp(x, y api.Int) int {
	s, t := sign(x), sign(y)
	if s != t {
		return cmp.Compare(s, t)
	}
	return s * compareWords(trim(x.Words), trim(y.Words))
}

// Gcd returns the greatest common divisor, not negative.
func Gcd(x, y api.Int) api.Int {
	return signed(false, gcdWords(trim(x.Words), trim(y.Words)))
}

// Root returns the greatest integer whose square is at most x.
func Root(x api.Int) (api.Int, api.Errno) {
	switch sign(x) {
	case -1:
		return api.Int{}, api.ErrRange
	case 0:
		return api.Int{}, api.OK
	}
	return signed(false, rootWords(trim(x.Words))), api.OK
}
