package lattice

import (
	"math"
	"math/big"
	"testing"

	"fourfold/integer"
)

// wantNumber checks that x is n, and that it is small just if it can be.
func wantNumber(t *testing.T, what string, x number, n *big.Int) {
	t.Helper()
	if integer.Format(x.words()) != n.String() {
		t.Errorf("%s: %s, want %v", what, integer.Format(x.words()), n)
	}
	fits := n.CmpAbs(big.NewInt(most)) <= 0
	if (x.large == nil) != fits || x.large != nil && x.small != 0 {
		t.Errorf("%s: %v is in the other form", what, x)
	}
}

func TestNumbers(t *testing.T) {
	ints := []int{0, 1, -1, 2, -2, 3, -7, 10, 1 << 31, -1 << 31, 1<<31 + 1, 3037000499, 3037000500, most - 1, most, -most, most + 1, -most - 1, math.MaxInt, math.MinInt, math.MinInt + 1, 123456789012345678}
	var numbers []number
	var bigs []*big.Int
	for _, n := range ints {
		numbers = append(numbers, numberOf(n), numberOf(n).times(numberOf(most)), numberOf(n).times(numberOf(most)).plus(numberOf(5)))
		product := new(big.Int).Mul(big.NewInt(int64(n)), big.NewInt(most))
		bigs = append(bigs, big.NewInt(int64(n)), product, new(big.Int).Add(product, big.NewInt(5)))
	}
	for i, x := range numbers {
		a := bigs[i]
		wantNumber(t, "a number", x, a)
		wantNumber(t, "the opposite", x.negative(), new(big.Int).Neg(a))
		wantNumber(t, "the size", x.absolute(), new(big.Int).Abs(a))
		if x.sign() != a.Sign() || x.isZero() != (a.Sign() == 0) || x.isOne() != (a.Cmp(big.NewInt(1)) == 0) {
			t.Errorf("%v: the sign is %d, and it is 0 or 1: %v, %v", a, x.sign(), x.isZero(), x.isOne())
		}
		if a.Sign() >= 0 {
			wantNumber(t, "the root", x.root(), new(big.Int).Sqrt(a))
		}
		for j, y := range numbers {
			wantPair(t, x, y, a, bigs[j])
		}
	}
}

// wantPair checks what is made of two numbers.
func wantPair(t *testing.T, x, y number, a, b *big.Int) {
	t.Helper()
	wantNumber(t, "the sum", x.plus(y), new(big.Int).Add(a, b))
	wantNumber(t, "the difference", x.minus(y), new(big.Int).Sub(a, b))
	wantNumber(t, "the product", x.times(y), new(big.Int).Mul(a, b))
	wantNumber(t, "the greatest common divisor", commonDivisor(x, y), new(big.Int).GCD(nil, nil, new(big.Int).Abs(a), new(big.Int).Abs(b)))
	if x.compare(y) != a.Cmp(b) {
		t.Errorf("compare %v and %v: %d", a, b, x.compare(y))
	}
	if b.Sign() != 0 {
		q, r := x.divide(y)
		quotient, rest := new(big.Int).DivMod(a, b, new(big.Int))
		wantNumber(t, "the quotient", q, quotient)
		wantNumber(t, "the remainder", r, rest)
	}
	if a.Sign() > 0 && b.Sign() > 0 {
		g, s, u := bezout(x, y)
		wantNumber(t, "the divisor of Bezout", g, new(big.Int).GCD(nil, nil, a, b))
		if s.times(x).plus(u.times(y)).compare(g) != 0 {
			t.Errorf("bezout of %v and %v: %v, %v", a, b, s, u)
		}
	}
}
