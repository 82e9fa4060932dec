package integer

import (
	"math"
	"math/bits"
)

// The functions of this file compute with absolute values as lists of pairs of words, the lower word first: for long numbers this takes a quarter of the steps.

// pairs returns words two by two.
func pairs(w []uint32) []uint64 {
	list := make([]uint64, (len(w)+1)/2)
	for i, word := range w {
		list[i/2] |= uint64(word) << (32 * (i % 2))
	}
	return list
}

// words returns the words of pairs, without the zeros at the end.
func words(list []uint64) []uint32 {
	w := make([]uint32, 2*len(list))
	for i, pair := range list {
		w[2*i] = uint32(pair)
		w[2*i+1] = uint32(pair >> 32)
	}
	return trim(w)
}

// mulPairs returns x y.
func mulPairs(x, y []uint64) []uint64 {
	product := make([]uint64, len(x)+len(y))
	for i, pair := range x {
		product[i+len(y)] = addMultiple(product[i:i+len(y)], y, pair)
	}
	return product
}

// addMultiple adds v times by to part, which is as long, and returns the carry at the end.
func addMultiple(part, v []uint64, by uint64) uint64 {
	carry := uint64(0)
	for i, pair := range v {
		high, low := bits.Mul64(pair, by)
		low, c := bits.Add64(low, carry, 0)
		high += c // which is no longer the greatest pair
		part[i], c = bits.Add64(part[i], low, 0)
		carry = high + c
	}
	return carry
}

// shiftPairsLeft returns the number times 2^s in one pair more, for s from 0 to 63; its last pair may be 0.
func shiftPairsLeft(list []uint64, s int) []uint64 {
	shifted := make([]uint64, len(list)+1)
	for i, pair := range list {
		shifted[i] |= pair << s
		shifted[i+1] = pair >> (64 - s) // 0 if s is 0
	}
	return shifted
}

// shiftPairsRight returns the number / 2^s, rounded down, for s from 0 to 63.
func shiftPairsRight(list []uint64, s int) []uint64 {
	shifted := make([]uint64, len(list))
	above := uint64(0)
	for i := len(list) - 1; i >= 0; i-- {
		shifted[i] = list[i]>>s | above<<(64-s)
		above = list[i]
	}
	return shifted
}

// dividePairs returns the quotient of u by v, whose highest bit is set, and leaves the remainder in u. The last pair of u is less than that of v.
func dividePairs(u, v []uint64) []uint64 {
	n := len(v)
	quotient := make([]uint64, len(u)-n)
	for j := len(quotient) - 1; j >= 0; j-- {
		part := u[j : j+n+1]
		guess := guessPair(part, v)
		if subtractMultiple(part, v, guess) {
			guess--
			addBack(part, v)
		}
		quotient[j] = guess
	}
	return quotient
}

// guessPair returns the quotient of part by v, which is one pair, or 1 more.
func guessPair(part, v []uint64) uint64 {
	n := len(v)
	if part[n] == v[n-1] { // the quotient is one of the two greatest pairs, as the highest bit of v is set
		return math.MaxUint64
	}
	guess, rest := bits.Div64(part[n], part[n-1], v[n-1]) // at most 2 too much
	if n == 1 {
		return guess
	}
	high, low := bits.Mul64(guess, v[n-2])
	if high > rest || high == rest && low > part[n-2] {
		guess--
	}
	return guess
}

// subtractMultiple takes v times by from part, and reports whether that was too much.
func subtractMultiple(part, v []uint64, by uint64) bool {
	carry := uint64(0)
	for i, pair := range v {
		high, low := bits.Mul64(pair, by)
		low, c := bits.Add64(low, carry, 0)
		high += c
		part[i], c = bits.Sub64(part[i], low, 0)
		carry = high + c
	}
	n := len(v)
	var borrow uint64
	part[n], borrow = bits.Sub64(part[n], carry, 0)
	return borrow != 0
}

// addBack adds v to part, without the carry at the end.
func addBack(part, v []uint64) {
	carry := uint64(0)
	for i, pair := range v {
		part[i], carry = bits.Add64(part[i], pair, carry)
	}
	part[len(v)] += carry
}
