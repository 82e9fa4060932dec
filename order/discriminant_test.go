package order_test

import (
	"fmt"
	"math/big"
	"testing"

	"fourfold/api"
	"fourfold/order"
)

// The tests of this file are those of P4.3.

func TestGram(t *testing.T) {
	g, e := order.Gram(hamilton, lipschitz)
	wantResult(t, "Gram", g, e, [][]int{{2, 0, 0, 0}, {0, 2, 0, 0}, {0, 0, 2, 0}, {0, 0, 0, 2}}, api.OK)
	g, e = order.Gram(api.Algebra{A: 2, B: -5}, lipschitz)
	wantResult(t, "Gram", g, e, [][]int{{2, 0, 0, 0}, {0, -4, 0, 0}, {0, 0, 10, 0}, {0, 0, 0, -20}}, api.OK)
	g, e = order.Gram(hamilton, hurwitz)
	wantResult(t, "Gram", g, e, [][]int{{2, 1, 1, 1}, {1, 2, 0, 0}, {1, 0, 2, 0}, {1, 0, 0, 2}}, api.OK)
	g, e = order.Gram(matrices, gamma(coord/2)) // the trace of the last vector times its conjugate is half the square of a million
	wantError(t, "Gram", api.ErrLarge, g, e)
}

func TestGramAtTheLimit(t *testing.T) {
	for _, x := range []struct {
		a api.Algebra
		n int
		e api.Errno
	}{{matrices, 22360, api.OK}, {matrices, 22361, api.ErrLarge}, {api.Algebra{A: 1, B: 5}, 10000, api.OK}, {api.Algebra{A: 1, B: 5}, 10001, api.ErrLarge}, {api.Algebra{A: 1, B: -5}, 10000, api.OK}, {api.Algebra{A: 1, B: -5}, 10001, api.ErrLarge}} {
		g, e := order.Gram(x.a, gamma(x.n))
		want(t, fmt.Sprint("Gram ", x.a, x.n), e, x.e)
		if e != api.OK {
			wantError(t, "Gram", x.e, g, e)
		} else {
			want(t, "the greatest number", g[3][3], 2*x.a.B*x.n*x.n) // that of n k
		}
	}
}

func TestGramsAndDiscriminants(t *testing.T) {
	n := numbers(8)
	for range 250 {
		a := n.algebra()
		l := n.order(t, a)
		h := echelonOf(slowRows(l))
		var gram [][]int
		wanted := api.OK
		for _, x := range h {
			var row []int
			for _, y := range h {
				r := x.times(a, y.conjugate()).trace()
				if r.Num().CmpAbs(big.NewInt(api.MaxDisc)) > 0 {
					wanted = api.ErrLarge
				}
				row = append(row, int(r.Num().Int64()))
			}
			gram = append(gram, row)
		}
		if wanted != api.OK {
			gram = nil
		}
		g, e := order.Gram(a, l)
		wantResult(t, fmt.Sprint("Gram ", a, l), g, e, gram, wanted)
		d, e := order.Discriminant(a, l)
		wantResult(t, fmt.Sprint("Discriminant ", a, l), int64(d), e, h.discriminant(a).Int64(), api.OK)
	}
}

func TestDiscriminant(t *testing.T) {
	for _, x := range []struct {
		a api.Algebra
		l api.Lattice
		d int
	}{{hamilton, lipschitz, 4}, {hamilton, hurwitz, 2}, {api.Algebra{A: 1000, B: -999}, lipschitz, 3996000}, {matrices, gamma(1), 1}, {matrices, gamma(500000), 500000}, {matrices, thick(1000), 1000000000}, {hamilton, multiples(3), 108}} {
		d, e := order.Discriminant(x.a, x.l)
		wantResult(t, fmt.Sprint("Discriminant ", x.a, x.l), d, e, x.d, api.OK)
	}
}

// slowSymbol looks at all elements modulo p.
func slowSymbol(a api.Algebra, l api.Lattice, p int) int {
	h := echelonOf(slowRows(l))
	if new(big.Int).Mod(h.discriminant(a), big.NewInt(int64(p))).Sign() != 0 {
		return 2
	}
	residue := func(r *big.Rat) int { return int(new(big.Int).Mod(r.Num(), big.NewInt(int64(p))).Int64()) }
	kinds := map[int]bool{}
	for c := range p * p * p * p {
		x := h[0].scaled(rat(c%p, 1))
		for place := 1; place < 4; place++ {
			c /= p
			x = x.plus(h[place].scaled(rat(c%p, 1)))
		}
		trace, norm, roots := residue(x.trace()), residue(x.norm(a)), 0
		for r := range p {
			if (r*r-trace*r+norm)%p == 0 {
				roots++
			}
		}
		kinds[roots] = true
	}
	switch {
	case kinds[2] && kinds[0]:
		return 99
	case kinds[2]:
		return 1
	case kinds[0]:
		return -1
	}
	return 0
}

func TestSymbol(t *testing.T) {
	for _, x := range []struct {
		a    api.Algebra
		l    api.Lattice
		p, s int
	}{
		{hamilton, lipschitz, 2, 0}, {hamilton, hurwitz, 2, -1}, {hamilton, hurwitz, 3, 2}, {hamilton, hurwitz, 13, 2},
		{matrices, gamma(1), 2, 2}, {matrices, gamma(2), 2, 1}, {matrices, gamma(13 * 11), 13, 1}, {matrices, gamma(13 * 11), 11, 1}, {matrices, gamma(169), 13, 1}, {matrices, gamma(8), 2, 1}, {matrices, thick(13), 13, 0}, {matrices, thick(4), 2, 0},
		{api.Algebra{A: -1, B: 7}, lipschitz, 7, -1}, {api.Algebra{A: -1, B: 49}, lipschitz, 7, -1}, {api.Algebra{A: 2, B: 7}, lipschitz, 7, 1}, {api.Algebra{A: 7, B: 14}, lipschitz, 7, 0}, {api.Algebra{A: 2, B: 13}, lipschitz, 13, -1}, {api.Algebra{A: 3, B: 13}, lipschitz, 13, 1},
	} {
		s, e := order.Symbol(x.a, x.l, x.p)
		wantResult(t, fmt.Sprint("Symbol ", x.a, x.l, x.p), s, e, x.s, api.OK)
	}
	for _, p := range []int{0, 1, -2, 4, 6, 9, 12, 14, 17, 1000000007, least, greatest} {
		s, e := order.Symbol(hamilton, hurwitz, p)
		wantError(t, fmt.Sprint("Symbol at ", p), api.ErrPrime, s, e)
	}
}

func TestSymbols(t *testing.T) {
	n := numbers(9)
	seen := map[int]int{}
	for range 200 {
		a := n.algebra()
		l := n.order(t, a)
		for _, p := range []int{2, 3, 5} {
			wanted := slowSymbol(a, l, p)
			s, e := order.Symbol(a, l, p)
			wantResult(t, fmt.Sprint("Symbol ", a, l, p), s, e, wanted, api.OK)
			seen[s]++
		}
	}
	for s := -1; s <= 2; s++ {
		if seen[s] < 20 {
			t.Errorf("%d symbols %d", seen[s], s)
		}
	}
}
