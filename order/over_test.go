package order_test

import (
	"cmp"
	"fmt"
	"slices"
	"testing"

	"fourfold/api"
	"fourfold/lattice"
	"fourfold/order"
)

// The tests of this file are those of P4.4.

func TestExamplesOfOverorders(t *testing.T) {
	list, e := order.Overorders(hamilton, lipschitz, 2)
	wantResult(t, "Overorders of the standard order", list, e, []api.Lattice{hurwitz}, api.OK)
	for _, p := range []int{2, 3, 5, 7, 11, 13} {
		list, e = order.Overorders(hamilton, hurwitz, p)
		wantResult(t, fmt.Sprint("Overorders of a maximal order at ", p), list, e, []api.Lattice{}, api.OK)
	}
	for _, p := range []int{2, 3, 5, 7, 11, 13} {
		list, e = order.Overorders(matrices, gamma(p), p)
		want(t, fmt.Sprint("Overorders at ", p), e, api.OK)
		want(t, fmt.Sprint("the number of overorders at ", p), len(list), 2)
		want(t, "the first one", same(list[0], gamma(1)), true)
		list, e = order.Overorders(matrices, thick(p), p)
		want(t, fmt.Sprint("Overorders at ", p), e, api.OK)
		want(t, fmt.Sprint("the number of overorders at ", p), len(list), p*p+p+1)
	}
	for _, p := range []int{0, 1, -2, 4, 6, 9, 12, 14, 17, 1000000007, least, greatest} {
		list, e := order.Overorders(hamilton, hurwitz, p)
		wantError(t, fmt.Sprint("Overorders at ", p), api.ErrPrime, list, e)
	}
}

func TestOrderWithoutOverordersOfAPrimeIndex(t *testing.T) {
	l := made[api.Lattice](t)(order.Generated(hamilton, []api.Quat{u, {X: 2, Den: 1}, {Y: 2, Den: 1}}))
	_, d := discriminants(t, hamilton, l)
	want(t, "the discriminant", d, 8)
	list, e := order.Overorders(hamilton, l, 2)
	wantResult(t, "Overorders", list, e, []api.Lattice{}, api.OK)
	is, e := order.IsMaximalAt(hamilton, l, 2)
	wantResult(t, "IsMaximalAt", is, e, false, api.OK)
	larger, e := order.MaximalAt(hamilton, l, 2)
	wantResult(t, "MaximalAt", larger, e, hurwitz, api.OK)
}

// compare compares lattices in normal form in their order.
func compare(l, m api.Lattice) int {
	c := cmp.Compare(l.Den, m.Den)
	for r := range l.Rows {
		for place := range l.Rows[r] {
			if c == 0 {
				c = cmp.Compare(l.Rows[r][place], m.Rows[r][place])
			}
		}
	}
	return c
}

// slowOverorders looks at all lattices that contain l with the index p: their duals are the parts of that of l.
func slowOverorders(t *testing.T, a api.Algebra, l api.Lattice, p int) ([]api.Lattice, api.Errno) {
	t.Helper()
	dual := made[api.Lattice](t)(lattice.Dual(l, lipschitz.Rows))
	var list []api.Lattice
	for _, part := range made[[]api.Lattice](t)(lattice.Sublattices(dual, p)) {
		h := echelonOf(slowRows(made[api.Lattice](t)(lattice.Dual(part, lipschitz.Rows))))
		if !h.isOrder(a) {
			continue
		}
		o, e := h.result(a)
		if e != api.OK {
			return nil, e
		}
		list = append(list, o)
	}
	slices.SortFunc(list, compare)
	return list, api.OK
}

func TestOverorders(t *testing.T) {
	n := numbers(10)
	seen := map[int]int{}
	for range 120 {
		a := n.algebra()
		l := n.order(t, a)
		for _, p := range []int{2, 3, 5}[:n.between(1, 3)] {
			wanted, f := slowOverorders(t, a, l, p)
			list, e := order.Overorders(a, l, p)
			wantResult(t, fmt.Sprint("Overorders ", a, l, p), list, e, wanted, f)
			seen[min(len(list), 4)]++
		}
	}
	for _, count := range []int{0, 1, 2, 4} {
		if seen[count] < 5 {
			t.Errorf("%d lists of %d orders", seen[count], count)
		}
	}
}

func TestOverordersThatAreTooLarge(t *testing.T) {
	// The number above the diagonal is divided by n, the one below is a multiple of 3 n. That above may be divided by 3 n too: then there is 18 n^2 in the normal form.
	const n = 408
	l := of(2*n, [4]int{2 * n, 0, 0, 0}, [4]int{n, n, 0, 0}, [4]int{0, 0, 1, 1}, [4]int{0, 0, 3 * n * n, -3 * n * n})
	want(t, "Check", order.Check(matrices, l), api.OK)
	_, f := slowOverorders(t, matrices, l, 3)
	want(t, "the error of one of the overorders", f, api.ErrLarge)
	list, e := order.Overorders(matrices, l, 3)
	wantError(t, "Overorders", api.ErrLarge, list, e)
	list, e = order.Overorders(matrices, l, 2)
	wantResult(t, "Overorders", list, e, []api.Lattice{}, api.OK)
}

func TestIsMaximal(t *testing.T) {
	for _, x := range []struct {
		a    api.Algebra
		l    api.Lattice
		p    int
		at   bool
		over bool
	}{
		{hamilton, lipschitz, 2, false, false}, {hamilton, hurwitz, 2, true, true}, {hamilton, lipschitz, 3, true, false}, {hamilton, lipschitz, 999999937, true, false},
		{matrices, gamma(1), 2, true, true}, {matrices, gamma(499979), 499979, false, false}, {matrices, gamma(499979), 2, true, false}, {matrices, gamma(17), 17, false, false}, {six, hurwitz, 2, true, true}, {six, lipschitz, 2, false, false}, {six, lipschitz, 3, true, false},
	} {
		is, e := order.IsMaximalAt(x.a, x.l, x.p)
		wantResult(t, fmt.Sprint("IsMaximalAt ", x.a, x.l, x.p), is, e, x.at, api.OK)
		is, e = order.IsMaximal(x.a, x.l)
		wantResult(t, fmt.Sprint("IsMaximal ", x.a, x.l), is, e, x.over, api.OK)
	}
	for _, p := range notPrimes {
		is, e := order.IsMaximalAt(hamilton, hurwitz, p)
		wantError(t, fmt.Sprint("IsMaximalAt ", p), api.ErrPrime, is, e)
	}
}

// notPrimes are numbers that are no primes up to 1000000000.
var notPrimes = []int{0, 1, -1, -2, -3, 4, 9, 15, 1000, 999999938, 1000000000, 1000000007, least, greatest}
