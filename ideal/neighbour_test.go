package ideal_test

import (
	"cmp"
	"fmt"
	"math/big"
	"slices"
	"testing"

	"fourfold/api"
	"fourfold/ideal"
	"fourfold/integer"
	"fourfold/lattice"
	"fourfold/order"
)

// The tests of this file are those of P5.5 and P5.9.

// compare compares lattices in normal form in their order.
func compare(l, m api.Lattice) int {
	return cmp.Or(cmp.Compare(l.Den, m.Den), slices.CompareFunc(l.Rows, m.Rows, slices.Compare))
}

// parts are all lattices in l with an index that has these primes as factors.
func parts(t *testing.T, l api.Lattice, primes ...int) []api.Lattice {
	t.Helper()
	list := []api.Lattice{l}
	for _, p := range primes {
		var next []api.Lattice
		for _, m := range list {
			next = append(next, made[[]api.Lattice](t)(lattice.Sublattices(m, p))...)
		}
		slices.SortFunc(next, compare)
		list = slices.CompactFunc(next, func(l, m api.Lattice) bool { return compare(l, m) == 0 })
	}
	return list
}

// isPart reports whether l is a lattice in m with this norm and this right order.
func isPart(a api.Algebra, l, m grid, norm *big.Rat, right grid) bool {
	if !new(big.Rat).Quo(l[0].norm(a), norm).IsInt() || !new(big.Rat).Quo(l[3].norm(a), norm).IsInt() {
		return false // said first, as most lattices fail here
	}
	return m.holds(l...) && l.norm(a).Cmp(norm) == 0 && rightOrder(a, l).isSame(right)
}

// times is the norm of a lattice, n times.
func times(a api.Algebra, g grid, n int) *big.Rat {
	return new(big.Rat).Mul(g.norm(a), rat(n, 1))
}

func TestAllIdealsOfSmallNorms(t *testing.T) {
	n := numbers(30)
	for _, x := range []struct {
		a      api.Algebra
		level  int
		norm   int
		primes []int
	}{
		{hamilton, 1, 3, []int{3, 3}}, {hamilton, 5, 3, []int{3, 3}}, {eleven, 1, 2, []int{2, 2}}, {eleven, 3, 4, []int{2, 2, 2, 2}}, {matrices, 1, 2, []int{2, 2}}, {matrices, 3, 2, []int{2, 2}}, {api.Algebra{A: -3, B: 5}, 1, 2, []int{2, 2}},
	} {
		o := eichler(t, x.a, x.level)
		l := grid(products(x.a, []slow{slowOf(api.Quat{W: n.between(1, 3), X: 4, Y: n.between(-1, 1), Den: 2})}, slowRows(o))).lattice()
		m, right := slowRows(l).canonical(), slowRows(o)
		norm := times(x.a, m, x.norm)
		var wanted []api.Lattice
		for _, part := range parts(t, l, x.primes...) {
			if isPart(x.a, slowRows(part), m, norm, right) {
				wanted = append(wanted, part)
			}
		}
		list, e := ideal.OfNorm(x.a, n.rewritten(l), x.norm)
		wantResult(t, fmt.Sprint("OfNorm ", x.a, l, x.norm), list, e, wanted, api.OK)
		want(t, fmt.Sprint("the number of ideals ", x.a, l, x.norm), len(list), sumOfNorm(x.norm))
	}
}

// sumOfNorm is the product of q^e + .. + q + 1 over the prime powers q^e of n: the sum of its divisors.
func sumOfNorm(n int) int {
	sum := 0
	for d := 1; d <= n; d++ {
		if n%d == 0 {
			sum += d
		}
	}
	return sum
}

func TestIdealsOfAllNorms(t *testing.T) {
	turns := numbers(31)
	for _, x := range []struct {
		a     api.Algebra
		level int
	}{{hamilton, 1}, {eleven, 1}, {hamilton, 15}, {six, 1}, {six, 5}, {matrices, 1}, {matrices, 6}, {api.Algebra{A: -701, B: -601}, 1}} {
		o := eichler(t, x.a, x.level)
		disc := made[int](t)(order.Discriminant(x.a, o))
		for n := 1; n <= api.MaxNorm; n++ {
			what := fmt.Sprint("OfNorm ", x.a, x.level, n)
			list, e := ideal.OfNorm(x.a, o, n)
			if g, _, _, _ := integer.Bezout(n, disc); g != 1 {
				wantError(t, what, api.ErrPrime, list, e)
				continue
			}
			if e == api.ErrLarge && x.a.A == -701 {
				continue
			}
			want(t, what, e, api.OK)
			want(t, what, len(list), sumOfNorm(n))
			m, right := slowRows(o).canonical(), slowRows(o)
			for c, l := range list {
				if c > 0 && compare(list[c-1], l) >= 0 {
					t.Fatalf("%s: %v before %v", what, list[c-1], l)
				}
				if turns.between(0, 30) > 0 {
					continue // the comparison takes its time
				}
				want(t, what, isPart(x.a, slowRows(l), m, times(x.a, m, n), right), true)
				want(t, what+" in normal form", compare(l, slowRows(l).lattice()), 0)
				want(t, what+" by its index", made[api.Frac](t)(ideal.Index(x.a, o, l)), api.Frac{Num: n * n, Den: 1})
			}
		}
	}
}

func TestIdealsInIdeals(t *testing.T) {
	n := numbers(32)
	compared := 0
	for range 60 {
		a := n.algebra(15)
		o := n.order(a)
		l := grid(products(a, []slow{slowOf(n.quat(3, 2))}, slowRows(o)))
		if l.canonical() == nil {
			continue
		}
		disc := made[int](t)(order.Discriminant(a, o))
		norm := n.between(1, api.MaxNorm)
		list, e := ideal.OfNorm(a, n.rewritten(l.lattice()), norm)
		what := fmt.Sprint("OfNorm ", a, l.lattice(), norm)
		if _, f := order.Level(a, o); f != api.OK {
			wantError(t, what, api.ErrOrder, list, e)
			continue
		}
		if g, _, _, _ := integer.Bezout(norm, disc); g != 1 {
			wantError(t, what, api.ErrPrime, list, e)
			continue
		}
		want(t, what, e, api.OK)
		want(t, what, len(list), sumOfNorm(norm))
		m := list[n.between(0, len(list)-1)]
		want(t, what, isPart(a, slowRows(m), l.canonical(), times(a, l, norm), slowRows(o)), true)
		compared++
	}
	if compared < 15 {
		t.Errorf("only %d lists", compared)
	}
}

func TestErrorsOfOfNorm(t *testing.T) {
	list, e := ideal.OfNorm(hamilton, of(4, [4]int{2, 2, 2, 2}, [4]int{0, 4, 0, 0}, [4]int{0, 0, 4, 0}, [4]int{0, 0, 0, 4}), 1)
	wantResult(t, "OfNorm with the norm 1", list, e, []api.Lattice{hurwitz}, api.OK)
	list, e = ideal.OfNorm(hamilton, hurwitz, 3)
	want(t, "OfNorm with the norm 3", e, api.OK)
	want(t, "the number of ideals of norm 3", len(list), 4)
	wide := of(1, [4]int{1, 0, 0, 0}, [4]int{0, 997, 0, 0}, [4]int{0, 0, 991, 0}, [4]int{0, 0, 0, 983}) // its right order has too great numbers
	dense := of(1, [4]int{1, 0, 0, 0}, [4]int{0, 700, 0, 0}, [4]int{0, 0, 700, 0}, [4]int{0, 0, 0, 700})
	great := made[api.Lattice](t)(ideal.Times(hamilton, api.Quat{W: coord / 2, Den: 1}, hurwitz))
	for _, x := range []struct {
		a api.Algebra
		l api.Lattice
		n int
		e api.Errno
	}{
		{api.Algebra{}, api.Lattice{}, 0, api.ErrZero}, {api.Algebra{A: 1, B: 1001}, api.Lattice{}, 0, api.ErrRange}, {hamilton, api.Lattice{Dim: 4, Den: 1}, 0, api.ErrShape}, {hamilton, of(coord+1, lipschitzRows()...), 0, api.ErrLarge},
		{hamilton, wide, 0, api.ErrRange}, {hamilton, hurwitz, 51, api.ErrRange}, {hamilton, hurwitz, -3, api.ErrRange}, {hamilton, lipschitz, least, api.ErrRange}, {hamilton, lipschitz, greatest, api.ErrRange},
		{hamilton, wide, 1, api.ErrLarge}, {hamilton, dense, 1, api.ErrLarge}, {hamilton, lipschitz, 1, api.ErrOrder}, {hamilton, lipschitz, 2, api.ErrOrder}, {hamilton, lipschitz, 3, api.ErrOrder},
		{hamilton, hurwitz, 2, api.ErrPrime}, {hamilton, hurwitz, 6, api.ErrPrime}, {hamilton, hurwitz, 50, api.ErrPrime}, {eleven, maximal(t, eleven), 33, api.ErrPrime}, {hamilton, eichler(t, hamilton, 3), 9, api.ErrPrime}, {hamilton, eichler(t, hamilton, 3), 4, api.ErrPrime},
		{hamilton, great, 3, api.ErrLarge}, {hamilton, great, 1, api.OK}, {hamilton, great, 2, api.ErrPrime},
	} {
		list, e := ideal.OfNorm(x.a, x.l, x.n)
		if x.e != api.OK {
			wantError(t, fmt.Sprint("OfNorm ", x.a, x.l, x.n), x.e, list, e)
			continue
		}
		wantResult(t, fmt.Sprint("OfNorm ", x.a, x.l, x.n), list, e, []api.Lattice{x.l}, api.OK)
	}
}
