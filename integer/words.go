package integer

import (
	"cmp"
	"math/bits"
	"slices"
)

// The functions of this file compute with absolute values: lists of words without zeros at the end.
// Their results are new memory, except where the comment says that they share it.

// trim returns the words without the zeros at the end. It shares their memory.
func trim(w []uint32) []uint32 {
	n := len(w)
	for n > 0 && w[n-1] == 0 {
		n--
	}
	return w[:n]
}

// compareWords returns -1, 0 or 1.
func compareWords(x, y []uint32) int {
	if len(x) != len(y) {
		return cmp.Compare(len(x), len(y))
	}
	for i := len(x) - 1; i >= 0; i-- {
		if x[i] != y[i] {
			return cmp.Compare(x[i], y[i])
		}
	}
	return 0
}

// addWords returns x + y.
func addWords(x, y []uint32) []uint32 {
	if len(x) < len(y) {
		x, y = y, x
	}
	sum := make([]uint32, len(x)+1)
	carry := uint64(0)
	for i, word := range x {
		t := uint64(word) + carry
		if i < len(y) {
			t += uint64(y[i])
		}
		sum[i] = uint32(t)
		carry = t >> 32
	}
	sum[len(x)] = uint32(carry)
	return trim(sum)
}

// subWords returns x - y, where x is at least y.
func subWords(x, y []uint32) []uint32 {
	difference := make([]uint32, len(x))
	borrow := uint64(0)
	for i, word := range x {
		t := uint64(word) - borrow
		if i < len(y) {
			t -= uint64(y[i])
		}
		difference[i] = uint32(t)
		borrow = t >> 63
	}
	return trim(difference)
}

// mulWords returns x y.
func mulWords(x, y []uint32) []uint32 {
	const long = 12 // from here on pairs are faster
	if len(x) >= long && len(y) >= long {
		return words(mulPairs(pairs(x), pairs(y)))
	}
	product := make([]uint32, len(x)+len(y))
	for i, word := range x {
		carry := uint64(0)
		for j, other := range y {
			t := uint64(word)*uint64(other) + uint64(product[i+j]) + carry
			product[i+j] = uint32(t)
			carry = t >> 32
		}
		product[i+len(y)] = uint32(carry)
	}
	return trim(product)
}

// divideByWord returns the quotient and the remainder of x by d, which is not 0.
func divideByWord(x []uint32, d uint32) ([]uint32, uint32) {
	quotient := make([]uint32, len(x))
	rest := uint64(0)
	for i := len(x) - 1; i >= 0; i-- {
		t := rest<<32 | uint64(x[i])
		quotient[i] = uint32(t / uint64(d))
		rest = t % uint64(d)
	}
	return trim(quotient), uint32(rest)
}

// divideWords returns the quotient and the remainder of x by y, which is not 0.
func divideWords(x, y []uint32) (quotient, rest []uint32) {
	if compareWords(x, y) < 0 {
		return nil, slices.Clone(x)
	}
	if len(y) > 1 {
		return divideLong(x, y)
	}
	quotient, word := divideByWord(x, y[0])
	return quotient, trim([]uint32{word})
}

// divideLong is divideWords for x from y on, and y of at least two words.
func divideLong(x, y []uint32) (quotient, rest []uint32) {
	v := pairs(y)
	// The quotients of pairs are right only where the highest bit of the divisor is set.
	shift := bits.LeadingZeros64(v[len(v)-1])
	u := shiftPairsLeft(pairs(x), shift)
	q := dividePairs(u, shiftPairsLeft(v, shift)[:len(v)])
	return words(q), words(shiftPairsRight(u, shift))
}

// shiftRight returns w / 2^s, rounded down, for s from 0 to 31.
func shiftRight(w []uint32, s int) []uint32 {
	shifted := make([]uint32, len(w))
	above := uint64(0)
	for i := len(w) - 1; i >= 0; i-- {
		t := above<<32 | uint64(w[i])
		shifted[i] = uint32(t >> s)
		above = uint64(w[i])
	}
	return trim(shifted)
}

// rootWords returns the greatest integer whose square is at most x, which is not 0.
func rootWords(x []uint32) []uint32 {
	length := 32*len(x) - bits.LeadingZeros32(x[len(x)-1])
	half := (length + 1) / 2
	root := make([]uint32, half/32+1)
	root[half/32] = 1 << (half % 32)
	// Newton's steps from above go down to the root, and stop there.
	for {
		quotient, _ := divideWords(x, root)
		next := shiftRight(addWords(root, quotient), 1)
		if compareWords(next, root) >= 0 {
			return root
		}
		root = next
	}
}
