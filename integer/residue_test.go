package integer_test

import (
	"fmt"
	"math/big"
	"slices"
	"testing"

	"fourfold/api"
	"fourfold/integer"
)

// The tests of this file are those of P1.3.

// mod is the residue of a modulo m, with integers of any size.
func mod(a, m int) int {
	return int(new(big.Int).Mod(big.NewInt(int64(a)), big.NewInt(int64(m))).Int64())
}

// size is |n|.
func size(n int) int {
	if n < 0 {
		return -n
	}
	return n
}

// gcdOf is the greatest common divisor.
func gcdOf(a, b int) int {
	for b != 0 {
		a, b = b, a%b
	}
	return size(a)
}

func wantBezout(t *testing.T, a, b int) {
	t.Helper()
	g, x, y, e := integer.Bezout(a, b)
	what := fmt.Sprintf("Bezout(%d, %d) = %d, %d, %d", a, b, g, x, y)
	want(t, what, e, api.OK)
	want(t, what+": divisor", g, gcdOf(a, b))
	want(t, what+": sum", a*x+b*y, g)
	if b != 0 && (x < 0 || x > size(b)/g-1) {
		t.Errorf("%s: x is out of its range", what)
	}
	if b == 0 && (size(x) != 1 || y != 0) {
		t.Errorf("%s: x is not 1 or -1, or y is not 0", what)
	}
}

func TestBezout(t *testing.T) {
	for a := -40; a <= 40; a++ {
		for b := -40; b <= 40; b++ {
			if a != 0 || b != 0 {
				wantBezout(t, a, b)
			}
		}
	}
	ends := []int{-limit, 1 - limit, -1, 0, 1, limit - 1, limit}
	for _, a := range ends {
		for _, b := range ends {
			if a != 0 || b != 0 {
				wantBezout(t, a, b)
			}
		}
	}
	n := numbers(3)
	for range 5000 {
		wantBezout(t, n.between(-limit, limit), n.between(1, limit))
		wantBezout(t, n.between(1, limit), n.between(-limit, limit))
	}
	for _, x := range []struct {
		a, b int
		e    api.Errno
	}{{0, 0, api.ErrZero}, {limit + 1, 0, api.ErrRange}, {0, -limit - 1, api.ErrRange}, {least, 1, api.ErrRange}, {1, least, api.ErrRange}, {greatest, greatest, api.ErrRange}, {0, limit + 1, api.ErrRange}} {
		g, u, v, e := integer.Bezout(x.a, x.b)
		want(t, fmt.Sprint("Bezout ", x.a, x.b), e, x.e)
		want(t, "beside the error", [3]int{g, u, v}, [3]int{})
	}
}

func TestInverse(t *testing.T) {
	for m := 1; m <= 60; m++ {
		for a := -70; a <= 70; a++ {
			x, e := integer.Inverse(a, m)
			if gcdOf(a, m) != 1 {
				want(t, fmt.Sprint("Inverse ", a, m), e, api.ErrNone)
				want(t, "beside the error", x, 0)
				continue
			}
			want(t, fmt.Sprint("Inverse ", a, m), e, api.OK)
			if x < 0 || x >= m || mod(a*x-1, m) != 0 {
				t.Errorf("Inverse(%d, %d) = %d", a, m, x)
			}
		}
	}
	for _, a := range beside {
		x, e := integer.Inverse(a, 999999937)
		if mod(a, 999999937) == 0 {
			want(t, fmt.Sprint("Inverse of ", a), e, api.ErrNone)
			continue
		}
		want(t, fmt.Sprint("Inverse of ", a), e, api.OK)
		want(t, fmt.Sprint("Inverse of ", a, " times it"), mod(mod(a, 999999937)*x, 999999937), 1)
	}
	x, e := integer.Inverse(limit-1, limit)
	want(t, "Inverse modulo the limit", e, api.OK)
	want(t, "Inverse modulo the limit", x, limit-1)
	for _, m := range []int{least, -1, 0, limit + 1, greatest} {
		x, e := integer.Inverse(1, m)
		want(t, fmt.Sprint("Inverse modulo ", m), e, api.ErrRange)
		want(t, "beside the error", x, 0)
	}
}

func TestPower(t *testing.T) {
	moduli := []int{1, 2, 3, 10, 97, 65536, 999999937, limit - 1, limit}
	for _, a := range beside {
		for _, n := range beside {
			for _, m := range moduli {
				x, e := integer.Power(a, n, m)
				if n < 0 {
					want(t, "Power with a negative exponent", e, api.ErrRange)
					want(t, "beside the error", x, 0)
					continue
				}
				want(t, "Power", e, api.OK)
				wanted := new(big.Int).Exp(big.NewInt(int64(a)), big.NewInt(int64(n)), big.NewInt(int64(m)))
				want(t, fmt.Sprint("Power ", a, n, m), x, mod(int(wanted.Int64()), m))
			}
		}
	}
	for _, m := range []int{least, -1, 0, limit + 1, greatest} {
		x, e := integer.Power(2, 3, m)
		want(t, fmt.Sprint("Power modulo ", m), e, api.ErrRange)
		want(t, "beside the error", x, 0)
	}
}

// wantChinese compares with a search through all residues.
func wantChinese(t *testing.T, l []api.Residue) {
	t.Helper()
	m := 1
	for _, r := range l {
		m = m / gcdOf(m, r.M) * r.M
	}
	holds := func(n int) bool {
		return !slices.ContainsFunc(l, func(r api.Residue) bool { return mod(n, r.M) != mod(r.R, r.M) })
	}
	wanted, code := api.Residue{}, api.ErrNone
	for n := range m {
		if holds(n) {
			wanted, code = api.Residue{R: n, M: m}, api.OK
			break
		}
	}
	before := slices.Clone(l)
	r, e := integer.Chinese(l)
	want(t, fmt.Sprint("Chinese ", l), e, code)
	want(t, fmt.Sprint("Chinese ", l), r, wanted)
	wantList(t, "the argument of Chinese", l, before)
}

func TestChinese(t *testing.T) {
	wantChinese(t, nil)
	for m := 1; m <= 12; m++ {
		for k := 1; k <= 12; k++ {
			for r := range m {
				for s := range k {
					wantChinese(t, []api.Residue{{R: r, M: m}, {R: s, M: k}})
				}
			}
		}
	}
	n := numbers(4)
	for range 2000 {
		value := n.between(-1000000, 1000000)
		var l []api.Residue
		for range n.below(4) {
			m := n.between(1, 20)
			l = append(l, api.Residue{R: value + m*n.between(-9, 9), M: m})
		}
		wantChinese(t, l)
		if len(l) > 0 {
			l[0].R++
			wantChinese(t, l)
		}
	}
	wantChinese(t, []api.Residue{{R: least, M: 7}, {R: greatest, M: 11}, {R: least + 1, M: 13}})
}

// many is n times the same residue.
func many(n int, r api.Residue) []api.Residue { return slices.Repeat([]api.Residue{r}, n) }

func TestLimitsOfChinese(t *testing.T) {
	pair := api.Residue{R: 1, M: limit}
	for _, x := range []struct {
		what   string
		l      []api.Residue
		wanted api.Residue
		e      api.Errno
	}{
		{"20 elements", many(20, api.Residue{R: 5, M: 6}), api.Residue{R: 5, M: 6}, api.OK},
		{"21 elements", many(21, api.Residue{R: 5, M: 6}), api.Residue{}, api.ErrLarge},
		{"21 elements that are wrong", many(21, api.Residue{R: 5, M: 0}), api.Residue{}, api.ErrLarge},
		{"the greatest modulus", []api.Residue{{R: -1, M: limit}}, api.Residue{R: limit - 1, M: limit}, api.OK},
		{"it twice", []api.Residue{pair, pair}, pair, api.OK},
		{"a multiple that is equal to the limit", []api.Residue{{R: 3, M: 512}, {R: 7, M: 1953125}}, api.Residue{R: 148437507, M: limit}, api.OK},
		{"modulus 0", []api.Residue{{R: 1, M: 2}, {R: 1, M: 0}}, api.Residue{}, api.ErrRange},
		{"a negative modulus", []api.Residue{{R: 1, M: -2}}, api.Residue{}, api.ErrRange},
		{"the least int as a modulus", []api.Residue{{R: 1, M: least}}, api.Residue{}, api.ErrRange},
		{"a modulus above the limit", []api.Residue{{R: 1, M: limit + 1}}, api.Residue{}, api.ErrRange},
		{"a wrong modulus behind a contradiction", []api.Residue{{R: 1, M: 2}, {R: 0, M: 2}, {R: 1, M: 0}}, api.Residue{}, api.ErrRange},
		{"a wrong modulus behind a great multiple", []api.Residue{{M: limit}, {M: limit - 1}, {M: limit + 1}}, api.Residue{}, api.ErrRange},
		{"a great multiple", []api.Residue{{M: limit}, {M: 3}}, api.Residue{}, api.ErrLarge},
		{"a contradiction behind a great multiple", []api.Residue{{M: limit}, {M: limit - 1}, {R: 1, M: 10}}, api.Residue{}, api.ErrNone},
		{"a contradiction of later elements", []api.Residue{{M: limit}, {R: 1, M: 999999999}, {R: 3, M: 9}}, api.Residue{}, api.ErrNone},
	} {
		r, e := integer.Chinese(x.l)
		want(t, "Chinese of "+x.what, e, x.e)
		want(t, "Chinese of "+x.what, r, x.wanted)
	}
}
