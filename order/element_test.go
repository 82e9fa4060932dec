package order_test

import (
	"fmt"
	"math"
	"math/big"
	"slices"
	"testing"

	"fourfold/algebra"
	"fourfold/api"
	"fourfold/order"
)

// The tests of this file are those of P4.7.

// compareQuats compares elements in their order.
func compareQuats(p, q api.Quat) int {
	x, y := slowOf(p), slowOf(q)
	for c := range x {
		if d := x[c].Cmp(y[c]); d != 0 {
			return d
		}
	}
	return 0
}

// root is the greatest integer whose square is at most n / d.
func root(n, d int) int { return int(math.Sqrt(float64(n / d))) }

// slowElements looks at all elements of the norm n whose numerators over the denominator of the order are integers.
func slowElements(a api.Algebra, l api.Lattice, n int) []api.Quat {
	h := echelonOf(slowRows(l))
	normal, _ := h.small()
	den := normal.Den
	square := n * den * den
	var list []api.Quat
	for w := -root(square, 1); w <= root(square, 1); w++ {
		for x := -root(square, -a.A); x <= root(square, -a.A); x++ {
			for y := -root(square, -a.B); y <= root(square, -a.B); y++ {
				rest := square - w*w + a.A*x*x + a.B*y*y
				if rest < 0 || rest%(a.A*a.B) != 0 {
					continue
				}
				z := root(rest, a.A*a.B)
				for _, z := range []int{-z, z}[:min(2, z+1)] {
					if q := slowOf(api.Quat{W: w, X: x, Y: y, Z: z, Den: den}); z*z*a.A*a.B == rest && h.holds(q) {
						list = append(list, lowest(q))
					}
				}
			}
		}
	}
	slices.SortFunc(list, compareQuats)
	return list
}

// lowest is an element in lowest terms, of any size.
func lowest(q slow) api.Quat {
	den := big.NewInt(1)
	for _, r := range q {
		g := new(big.Int).GCD(nil, nil, den, r.Denom())
		den.Mul(den, g.Div(r.Denom(), g))
	}
	var n [4]int
	for c, r := range q.scaled(new(big.Rat).SetInt(den)) {
		n[c] = int(r.Num().Int64())
	}
	return api.Quat{W: n[0], X: n[1], Y: n[2], Z: n[3], Den: int(den.Int64())}
}

func TestElements(t *testing.T) {
	n := numbers(13)
	found := 0
	for range 120 {
		a := n.definite()
		l := n.order(t, a)
		for _, norm := range []int{0, 1, 2, 3, 4, 7, 12, 50} {
			if den := echelonOf(slowRows(l)); norm > 0 {
				if small, _ := den.small(); norm*small.Den*small.Den > 250 {
					continue
				}
			}
			wanted := slowElements(a, l, norm)
			list, e := order.Elements(a, l, norm)
			wantResult(t, fmt.Sprint("Elements ", a, l, norm), list, e, wanted, api.OK)
			found += len(list)
		}
	}
	if found < 2000 {
		t.Errorf("only %d elements", found)
	}
}

func TestExamplesOfElements(t *testing.T) {
	units := []api.Quat{{W: -1, Den: 1}, {X: -1, Den: 1}, {Y: -1, Den: 1}, {Z: -1, Den: 1}, k, j, i, one}
	list, e := order.Elements(hamilton, lipschitz, 1)
	wantResult(t, "Elements of norm 1", list, e, units, api.OK)
	list, e = order.Units(hamilton, lipschitz)
	wantResult(t, "Units", list, e, units, api.OK)
	list, e = order.Units(hamilton, hurwitz)
	want(t, "Units of Hurwitz", e, api.OK)
	want(t, "the number of units", len(list), 24)
	list, e = order.Elements(hamilton, lipschitz, 2)
	want(t, "Elements of norm 2", e, api.OK)
	want(t, "the number of elements of norm 2", len(list), 24)
	for _, l := range []api.Lattice{lipschitz, hurwitz} {
		list, e = order.Elements(hamilton, l, 0)
		wantResult(t, "Elements of norm 0", list, e, []api.Quat{{Den: 1}}, api.OK)
	}
	list, e = order.Elements(api.Algebra{A: -1000, B: -999}, lipschitz, 3)
	wantResult(t, "Elements where there are none", list, e, []api.Quat{}, api.OK)
	for _, n := range []int{-1, 51, 1000000007, least, greatest} {
		list, e = order.Elements(hamilton, hurwitz, n)
		wantError(t, fmt.Sprint("Elements of norm ", n), api.ErrRange, list, e)
		list, e = order.Embeddings(hamilton, hurwitz, api.Type{Trace: 1, Norm: n})
		wantError(t, fmt.Sprint("Embeddings of norm ", n), api.ErrRange, list, e)
	}
}

// sumOfDivisors is that of the divisors of n that p does not divide.
func sumOfDivisors(n, p int) int {
	sum := 0
	for d := 1; d <= n; d++ {
		if n%d == 0 && d%p != 0 {
			sum += d
		}
	}
	return sum
}

// wantElements checks what is said of a list of elements of a norm.
func wantElements(t *testing.T, what string, a api.Algebra, l api.Lattice, n int, list []api.Quat) {
	t.Helper()
	h := echelonOf(slowRows(l))
	for c, q := range list {
		s := slowOf(q)
		if !h.holds(s) || s.norm(a).Cmp(rat(n, 1)) != 0 || lowest(s) != q {
			t.Errorf("%s: %v", what, q)
		}
		if c > 0 && compareQuats(list[c-1], q) >= 0 {
			t.Errorf("%s: %v before %v", what, list[c-1], q)
		}
	}
}

func TestElementsOfOrdersWithOneClass(t *testing.T) {
	turns := numbers(14)
	for _, x := range []struct {
		a api.Algebra
		p int
	}{{hamilton, 2}, {three, 3}, {api.Algebra{A: -2, B: -5}, 5}, {api.Algebra{A: -1, B: -7}, 7}, {api.Algebra{A: -2, B: -13}, 13}} {
		l := made[api.Lattice](t)(order.Maximal(x.a, lipschitz))
		want(t, fmt.Sprint("the discriminant of ", x.a), made[int](t)(order.Discriminant(x.a, l)), x.p)
		list := []api.Lattice{l}
		for range 4 {
			if turned, e := order.Conjugate(x.a, l, turns.quat(12, 1)); e == api.OK {
				list = append(list, turned)
			}
		}
		for n := 1; n <= api.MaxNorm; n++ {
			for _, l := range list {
				what := fmt.Sprint("Elements ", x.a, l, n)
				elements, e := order.Elements(x.a, l, n)
				want(t, what, e, api.OK)
				want(t, what, len(elements), 24/(x.p-1)*sumOfDivisors(n, x.p))
				if n < 12 || n == api.MaxNorm {
					wantElements(t, what, x.a, l, n, elements)
				}
			}
		}
	}
}

func TestElementsOfOrdersWithGreatNumbers(t *testing.T) {
	n := numbers(15)
	great := 0
	for range 200 {
		a := n.definite()
		l, e := order.Maximal(a, lipschitz)
		if e != api.OK {
			continue
		}
		turned, e := order.Conjugate(a, l, n.quat(12, 1))
		if e != api.OK || turned.Rows[3][3] < 10000 {
			continue
		}
		great++
		for _, norm := range []int{1, 2, 5, 30} {
			what := fmt.Sprint("Elements ", a, turned, norm)
			list := made[[]api.Quat](t)(order.Elements(a, turned, norm))
			want(t, what, len(list), len(made[[]api.Quat](t)(order.Elements(a, l, norm))))
			wantElements(t, what, a, turned, norm, list)
		}
	}
	if great < 30 {
		t.Errorf("only %d orders", great)
	}
}

func TestElementsThatDoNotFit(t *testing.T) {
	// This algebra is that of Hamilton's quaternions: so there are 744 elements, many of them with a great denominator.
	a := api.Algebra{A: -701, B: -601}
	l := made[api.Lattice](t)(order.Maximal(a, lipschitz))
	list, e := order.Elements(a, l, 50)
	want(t, "Elements", e, api.OK)
	want(t, "the number of elements", len(list), 24*sumOfDivisors(50, 2))
	wantElements(t, "Elements", a, l, 50, list)
	tooGreat := func(q api.Quat) bool { return algebra.CheckQuat(q) != api.OK }
	want(t, "an element that is not valid", slices.ContainsFunc(list, tooGreat), true)
	list, e = order.Embeddings(a, l, api.Type{Trace: 14, Norm: 50})
	want(t, "Embeddings", e, api.OK)
	want(t, "the number of embeddings", len(list), 6)
	want(t, "an embedding that is not valid", slices.ContainsFunc(list, tooGreat), true)
}

func TestEmbeddings(t *testing.T) {
	list, e := order.Embeddings(hamilton, hurwitz, api.Type{Trace: 1, Norm: 1})
	want(t, "Embeddings", e, api.OK)
	want(t, "the number of elements of trace 1 and norm 1", len(list), 8)
	want(t, "the first one", list[0], api.Quat{W: 1, X: -1, Y: -1, Z: -1, Den: 2})
	for _, x := range []api.Type{{Trace: 3, Norm: 1}, {Trace: -5, Norm: 6}, {Trace: 1, Norm: 0}, {Trace: greatest, Norm: 5}, {Trace: least, Norm: 1}, {Trace: 1 << 62, Norm: 50}} {
		list, e = order.Embeddings(hamilton, hurwitz, x)
		wantResult(t, fmt.Sprint("Embeddings ", x), list, e, []api.Quat{}, api.OK)
	}
	list, e = order.Embeddings(hamilton, lipschitz, api.Type{Trace: 1, Norm: 1})
	wantResult(t, "Embeddings", list, e, []api.Quat{}, api.OK)
	n := numbers(16)
	for range 100 {
		a := n.definite()
		l := n.order(t, a)
		norm := n.between(0, 20)
		all := made[[]api.Quat](t)(order.Elements(a, l, norm))
		count := 0
		for trace := -9; trace <= 9; trace++ {
			var wanted []api.Quat
			for _, q := range all {
				if slowOf(q).trace().Cmp(rat(trace, 1)) == 0 {
					wanted = append(wanted, q)
				}
			}
			list, e := order.Embeddings(a, l, api.Type{Trace: trace, Norm: norm})
			wantResult(t, fmt.Sprint("Embeddings ", a, l, trace, norm), list, e, wanted, api.OK)
			count += len(list)
		}
		want(t, "the number of all embeddings", count, len(all))
	}
}
