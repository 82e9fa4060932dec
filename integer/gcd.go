package integer

import (
	"math/bits"
	"slices"
)

// The functions of this file find the greatest common divisor of absolute values by Euclid's algorithm, as Lehmer has it: as long as the first bits of two numbers alone tell the quotients, the steps are made with these bits, and then all at once with the numbers.

// steps are some of Euclid's steps for a and b. They lead to the numbers u[0] a - v[0] b and v[1] b - u[1] a, or to the opposites of these expressions if the number of steps is odd.
type steps struct {
	u, v [2]uint64
	odd  bool
}

// leading returns 64 bits of w, from the bit on that stands s places below the highest one of word n - 1, for n of at least 3 and s from 0 to 31.
func leading(w []uint32, n, s int) uint64 {
	word := func(i int) uint64 {
		if i < len(w) {
			return uint64(w[i])
		}
		return 0
	}
	return (word(n-1)<<32|word(n-2))<<s | word(n-3)>>(32-s)
}

// stepsOf returns the steps that are the same for all numbers with the first bits of a and b, for a from b on, and b of at least three words.
// By Collins' condition, a quotient is certain if the rest is at least the next factor, and the difference of the last two rests at least the sum of the last two factors.
func stepsOf(a, b []uint32) steps {
	s := bits.LeadingZeros32(a[len(a)-1])
	first, second := leading(a, len(a), s), leading(b, len(a), s)
	l := steps{u: [2]uint64{0, 1}, odd: true}
	nextU, nextV := uint64(0), uint64(1)
	for second >= nextV && first-second >= l.v[1]+nextV {
		q := first / second
		first, second = second, first%second
		l.u[0], l.u[1], nextU = l.u[1], nextU, l.u[1]+q*nextU
		l.v[0], l.v[1], nextV = l.v[1], nextV, l.v[1]+q*nextV
		l.odd = !l.odd
	}
	return l
}

// combined returns u a - v b, or v b - u a if that is to be the opposite. It is not negative.
func combined(u uint64, a []uint32, v uint64, b []uint32, opposite bool) []uint32 {
	x, y := mulWords(a, words([]uint64{u})), mulWords(b, words([]uint64{v}))
	if opposite {
		x, y = y, x
	}
	return subWords(x, y)
}

// gcdWords returns the greatest common divisor of a and b.
func gcdWords(a, b []uint32) []uint32 {
	if compareWords(a, b) < 0 {
		a, b = b, a
	}
	for len(b) > 2 {
		l := stepsOf(a, b)
		if l.v[0] == 0 { // not even one step is certain
			_, rest := divideWords(a, b)
			a, b = b, rest
			continue
		}
		a, b = combined(l.u[0], a, l.v[0], b, l.odd), combined(l.u[1], a, l.v[1], b, !l.odd)
	}
	if len(b) == 0 {
		return slices.Clone(a)
	}
	_, rest := divideWords(a, b)
	return words([]uint64{gcdPair(pairs(b)[0], append(pairs(rest), 0)[0])})
}

// gcdPair returns the greatest common divisor of numbers of one pair.
func gcdPair(a, b uint64) uint64 {
	for b > 0 {
		a, b = b, a%b
	}
	return a
}
