package lattice

import (
	"cmp"
	"math"
	"math/bits"

	"fourfold/api"
	"fourfold/integer"
)

// most is the greatest size of a number that is kept as an int: the sum of two of them is an int as well.
const most = 1<<62 - 1

// number is an integer of any size: small, or *large if large is not nil, which is so just if its size is above most; then small is 0.
// Nearly all numbers are small, and faster to compute with than integers of several words. What large points to is never changed.
type number struct {
	small int
	large *api.Int
}

// numberOf returns n as a number.
func numberOf(n int) number {
	if n >= -most && n <= most {
		return number{small: n}
	}
	x := integer.Of(n)
	return number{large: &x}
}

// shrink returns x, which is in normal form, as a number. It keeps the memory of x.
func shrink(x api.Int) number {
	if n, ok := integer.Small(x); ok {
		return numberOf(n)
	}
	return number{large: &x}
}

// words returns x as an integer of several words. It may share memory with x.
func (x number) words() api.Int {
	if x.large != nil {
		return *x.large
	}
	return integer.Of(x.small)
}

// result returns x as an integer of several words in new memory.
func (x number) result() api.Int {
	if x.large != nil {
		return integer.Normal(*x.large)
	}
	return integer.Of(x.small)
}

// entry returns x as an int, and whether its size is at most MaxEntry.
func (x number) entry() (int, bool) {
	if x.large != nil || !isEntry(x.small) {
		return 0, false
	}
	return x.small, true
}

// sign returns -1, 0 or 1.
func (x number) sign() int {
	switch {
	case x.large == nil:
		return cmp.Compare(x.small, 0)
	case x.large.Neg:
		return -1
	}
	return 1
}

// isZero reports whether x is 0.
func (x number) isZero() bool {
	return x.small == 0 && x.large == nil
}

// isOne reports whether x is 1.
func (x number) isOne() bool {
	return x.small == 1
}

// compare returns -1, 0 or 1, as x is less than, equal to or greater than y.
func (x number) compare(y number) int {
	if x.large == nil && y.large == nil {
		return cmp.Compare(x.small, y.small)
	}
	return integer.Cmp(x.words(), y.words())
}

// negative returns -x.
func (x number) negative() number {
	return number{}.minus(x)
}

// absolute returns x or -x, which is not negative.
func (x number) absolute() number {
	if x.sign() < 0 {
		return x.negative()
	}
	return x
}

// plus returns x + y.
func (x number) plus(y number) number {
	if x.large == nil && y.large == nil {
		return numberOf(x.small + y.small)
	}
	return shrink(integer.Add(x.words(), y.words()))
}

// minus returns x - y.
func (x number) minus(y number) number {
	if x.large == nil && y.large == nil {
		return numberOf(x.small - y.small)
	}
	return shrink(integer.Sub(x.words(), y.words()))
}

// times returns x y.
func (x number) times(y number) number {
	if x.large == nil && y.large == nil {
		high, low := bits.Mul64(size(x.small), size(y.small))
		if high == 0 && low <= most {
			return number{small: x.small * y.small}
		}
	}
	return shrink(integer.Mul(x.words(), y.words()))
}

// size returns the size of n.
func size(n int) uint64 {
	if n < 0 {
		return -uint64(n)
	}
	return uint64(n)
}

// divide returns q and r with x = q y + r and 0 <= r < |y|, for y that is not 0.
func (x number) divide(y number) (q, r number) {
	if x.large != nil || y.large != nil {
		quotient, rest, _ := integer.DivMod(x.words(), y.words())
		return shrink(quotient), shrink(rest)
	}
	quotient, rest := x.small/y.small, x.small%y.small
	switch {
	case rest < 0 && y.small > 0:
		quotient, rest = quotient-1, rest+y.small
	case rest < 0:
		quotient, rest = quotient+1, rest-y.small
	}
	return number{small: quotient}, number{small: rest}
}

// over returns x / y, rounded down for positive y.
func (x number) over(y number) number {
	q, _ := x.divide(y)
	return q
}

// root returns the greatest integer whose square is at most x, for x that is not negative.
func (x number) root() number {
	if x.large != nil {
		r, _ := integer.Root(*x.large)
		return shrink(r)
	}
	r := int(math.Sqrt(float64(x.small)))
	for r*r > x.small {
		r--
	}
	for (r+1)*(r+1) <= x.small {
		r++
	}
	return number{small: r}
}

// commonDivisor returns the greatest common divisor of x and y.
func commonDivisor(x, y number) number {
	for x.large == nil && y.large == nil && y.small != 0 {
		x.small, y.small = y.small, x.small%y.small
	}
	if y.isZero() {
		return x.absolute()
	}
	return shrink(integer.Gcd(x.words(), y.words()))
}

// bezout returns the greatest common divisor g of x and y, which are positive, and s and t with s x + t y = g.
func bezout(x, y number) (g, s, t number) {
	g, rest := x, y
	s, next := numberOf(1), number{}
	for !rest.isZero() {
		q, r := g.divide(rest)
		g, rest = rest, r
		s, next = next, s.minus(q.times(next))
	}
	return g, s, g.minus(s.times(x)).over(y)
}
