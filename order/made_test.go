package order_test

import (
	"fmt"
	"math/big"
	"testing"

	"fourfold/algebra"
	"fourfold/api"
	"fourfold/order"
)

// The tests of this file are those of P4.2 and P4.6.

func TestExamplesOfGeneratedOrders(t *testing.T) {
	quats := func(list ...api.Quat) []api.Quat { return list }
	for _, x := range []struct {
		a api.Algebra
		l []api.Quat
		o api.Lattice
		e api.Errno
	}{
		{hamilton, quats(i, j), lipschitz, api.OK}, {hamilton, quats(i, j, u), hurwitz, api.OK}, {hamilton, quats(u, i), hurwitz, api.OK}, {hamilton, quats(one, i, j, k, u, u, i, j), hurwitz, api.OK},
		{hamilton, quats(api.Quat{W: 7, X: 2, Den: 2}, i, j), api.Lattice{}, api.ErrNone}, {hamilton, quats(api.Quat{W: 14, X: 2, Den: 2}, j), lipschitz, api.OK},
		{hamilton, quats(i), api.Lattice{}, api.ErrShape}, {hamilton, nil, api.Lattice{}, api.ErrShape}, {hamilton, quats(one, api.Quat{W: 5, Den: 1}, api.Quat{Den: 1}), api.Lattice{}, api.ErrShape}, {hamilton, quats(u, api.Quat{X: 1, Y: 1, Z: 1, Den: 1}), api.Lattice{}, api.ErrShape},
		{hamilton, quats(api.Quat{X: 1, Den: 2}), api.Lattice{}, api.ErrNone}, {hamilton, quats(api.Quat{W: 1, Den: 2}), api.Lattice{}, api.ErrNone}, {hamilton, quats(i, j, api.Quat{W: 1, Den: 3}), api.Lattice{}, api.ErrNone},
		// each one is integral, but products are not
		{hamilton, quats(api.Quat{X: 3, Y: 4, Den: 5}), api.Lattice{}, api.ErrShape}, {hamilton, quats(api.Quat{X: 3, Y: 4, Den: 5}, i), api.Lattice{}, api.ErrNone}, {hamilton, quats(api.Quat{X: 3, Y: 4, Den: 5}, api.Quat{X: 5, Y: 12, Den: 13}), api.Lattice{}, api.ErrNone},
		{matrices, quats(api.Quat{W: 1, X: 1, Den: 2}), api.Lattice{}, api.ErrShape}, {matrices, quats(api.Quat{Y: 1, Z: 1, Den: 6}), api.Lattice{}, api.ErrShape}, {matrices, quats(api.Quat{Y: 1, Z: 1, Den: 2}, api.Quat{Y: 1, Z: -1, Den: 2}), gamma(1), api.OK}, {matrices, quats(api.Quat{Y: 1, Z: 1, Den: 4}, api.Quat{Y: 1, Z: -1, Den: 2}), api.Lattice{}, api.ErrNone},
		{matrices, quats(api.Quat{W: 1, X: 1, Den: 2}, api.Quat{Y: 1, Z: 1, Den: coord}), api.Lattice{}, api.ErrShape}, // of rank 3
		{matrices, quats(api.Quat{Y: 1, Z: 1, Den: 8}, api.Quat{Y: 4, Z: -4, Den: 1}), of(8, [4]int{8, 0, 0, 0}, [4]int{0, 8, 0, 0}, [4]int{0, 0, 1, 1}, [4]int{0, 0, 0, 64}), api.OK},
		{hamilton, quats(api.Quat{X: 629, Den: 1}, api.Quat{Y: 629, Den: 1}, api.Quat{Z: 629, Den: 1}), multiples(629), api.OK}, {hamilton, quats(api.Quat{X: 630, Den: 1}, api.Quat{Y: 630, Den: 1}, api.Quat{Z: 630, Den: 1}), api.Lattice{}, api.ErrLarge},
		{hamilton, quats(api.Quat{X: coord, Den: 1}, api.Quat{Y: coord, Den: 1}), api.Lattice{}, api.ErrLarge}, {hamilton, quats(api.Quat{X: coord, Y: 1, Den: 1}, api.Quat{Y: coord, Z: 1, Den: 1}, api.Quat{Z: coord - 1, X: 1, Den: 1}, i, j), lipschitz, api.OK},
		{hamilton, make([]api.Quat, 9), api.Lattice{}, api.ErrRange}, {hamilton, make([]api.Quat, 8), api.Lattice{}, api.ErrForm}, {hamilton, quats(api.Quat{X: 1, Den: 2}, api.Quat{X: coord + 1, Den: 1}), api.Lattice{}, api.ErrForm}, {hamilton, quats(i, api.Quat{}), api.Lattice{}, api.ErrForm},
		{api.Algebra{A: 1}, make([]api.Quat, 9), api.Lattice{}, api.ErrZero}, {api.Algebra{A: 1001, B: 1}, nil, api.Lattice{}, api.ErrRange},
	} {
		o, e := order.Generated(x.a, x.l)
		wantResult(t, fmt.Sprint("Generated ", x.a, x.l), o, e, x.o, x.e)
	}
}

// isIntegral reports whether traces and norms of sums of two of the elements are integers.
func isIntegral(a api.Algebra, list []slow) bool {
	for _, x := range list {
		for _, y := range append([]slow{slowOf(api.Quat{Den: 1})}, list...) {
			if s := x.plus(y); !s.trace().IsInt() || !s.norm(a).IsInt() {
				return false
			}
		}
	}
	return true
}

// slowGenerated multiplies what there is with itself until it stays as it is, or a trace or norm is no integer.
func slowGenerated(a api.Algebra, list []api.Quat) (api.Lattice, api.Errno) {
	elements := []slow{slowOf(one)}
	for _, q := range list {
		elements = append(elements, slowOf(q))
	}
	for {
		h := echelonOf(elements)
		elements = h.elements()
		if !isIntegral(a, elements) {
			return api.Lattice{}, api.ErrNone
		}
		more := products(a, elements, elements)
		if !h.holdsAll(more) {
			elements = append(elements, more...)
			continue
		}
		if len(elements) < 4 {
			return api.Lattice{}, api.ErrShape
		}
		return h.result(a)
	}
}

func TestGenerated(t *testing.T) {
	n := numbers(4)
	seen := map[api.Errno]int{}
	for round := range 400 {
		a := n.algebra()
		var list []api.Quat
		l := n.order(t, a)
		for range n.between(1, 4) {
			switch n.between(0, 9) {
			case 0:
				list = append(list, n.quat(3, 2))
			case 1:
				list = append(list, n.quat(20, 1))
			case 2:
				list = append(list, n.quat(coord, []int{1, coord}[round%2]))
			default:
				list = append(list, n.combination(t, a, l, 2))
			}
		}
		o, e := order.Generated(a, list)
		wanted, f := slowGenerated(a, list)
		wantResult(t, fmt.Sprint("Generated ", a, list), o, e, wanted, f)
		seen[e]++
	}
	if seen[api.OK] < 50 || seen[api.ErrNone] < 50 || seen[api.ErrShape] < 20 || seen[api.ErrLarge] < 20 {
		t.Errorf("results with these errors: %v", seen)
	}
}

func TestOrdersGenerateThemselves(t *testing.T) {
	n := numbers(5)
	for range 100 {
		a := n.algebra()
		l := n.order(t, a)
		basis := made[[]api.Quat](t)(order.Basis(a, l))
		o, e := order.Generated(a, append(basis, basis...))
		wanted, _ := echelonOf(slowRows(l)).small()
		wantResult(t, fmt.Sprint("Generated by the basis of ", a, l), o, e, wanted, api.OK)
	}
}

func TestElementsThatFillTheWorld(t *testing.T) {
	n := numbers(6)
	for range 20 { // eight elements with great numbers
		var list []api.Quat
		for range 8 {
			q := n.quat(coord, coord)
			list = append(list, q)
		}
		o, e := order.Generated(n.algebra(), list)
		wantError(t, fmt.Sprint("Generated ", list), api.ErrNone, o, e)
		for c := range list {
			list[c].Den = 1
		}
		a := n.algebra()
		o, e = order.Generated(a, list)
		wanted, f := slowGenerated(a, list)
		wantResult(t, fmt.Sprint("Generated ", a, list), o, e, wanted, f)
	}
}

func TestExamplesOfConjugates(t *testing.T) {
	l, e := order.Conjugate(hamilton, hurwitz, api.Quat{W: 1, X: 1, Den: 1})
	wantResult(t, "Conjugate by 1 + i", l, e, hurwitz, api.OK)
	l, e = order.Conjugate(hamilton, lipschitz, u)
	wantResult(t, "Conjugate by a unit that takes i to j", l, e, lipschitz, api.OK)
	for _, q := range []api.Quat{{W: 7, Den: 3}, {W: -1, Den: coord}, {W: coord, Den: 1}} {
		l, e = order.Conjugate(hamilton, of(4, [4]int{4, 0, 0, 0}, [4]int{0, 4, 0, 0}, [4]int{0, 0, 8, 4}, [4]int{0, 0, 4, 0}), q)
		wantResult(t, fmt.Sprint("Conjugate by ", q), l, e, lipschitz, api.OK)
	}
	// The matrix (1 0 / 0 n), whose inverse stands on the left: the number above the diagonal is multiplied by n.
	stretch := api.Quat{W: 1 + 5, X: 1 - 5, Den: 2}
	l, e = order.Conjugate(matrices, gamma(5), stretch)
	want(t, "a conjugate of matrices", echelonOf(slowRows(l)).holds(slowOf(api.Quat{Y: 5, Z: 5, Den: 2})), true)
	want(t, "a conjugate of matrices", echelonOf(slowRows(l)).holds(slowOf(api.Quat{Y: 1, Z: -1, Den: 2})), true)
	want(t, "a conjugate of matrices", e, api.OK)
	for _, x := range []struct {
		a api.Algebra
		q api.Quat
		e api.Errno
	}{
		{hamilton, api.Quat{}, api.ErrForm}, {hamilton, api.Quat{W: coord + 1, Den: 1}, api.ErrForm}, {hamilton, api.Quat{Den: 5}, api.ErrZero}, {matrices, api.Quat{W: 1, X: 1, Den: 1}, api.ErrZero}, {matrices, api.Quat{Y: 1, Z: 1, Den: 2}, api.ErrZero},
		{hamilton, api.Quat{W: coord, X: 1, Y: 2, Den: 1}, api.ErrLarge}, {api.Algebra{A: 1000, B: 1000}, api.Quat{W: coord, X: coord - 1, Y: 1 - coord, Z: coord, Den: 7}, api.ErrLarge},
	} {
		l, e := order.Conjugate(x.a, lipschitz, x.q)
		wantError(t, fmt.Sprint("Conjugate ", x.a, x.q), x.e, l, e)
	}
}

// slowConjugate is the order of all q^-1 x q.
func slowConjugate(a api.Algebra, l api.Lattice, q api.Quat) (api.Lattice, api.Errno) {
	s := slowOf(q)
	norm := s.norm(a)
	if norm.Sign() == 0 {
		return api.Lattice{}, api.ErrZero
	}
	inverse := s.conjugate().scaled(new(big.Rat).Inv(norm))
	return echelonOf(products(a, products(a, []slow{inverse}, slowRows(l)), []slow{s})).result(a)
}

func TestConjugate(t *testing.T) {
	n := numbers(7)
	seen := map[api.Errno]int{}
	for range 300 {
		a := n.algebra()
		l := n.order(t, a)
		most := []int{2, 9, 100, coord}[n.between(0, 3)]
		q := n.quat(most, 3)
		switch n.between(0, 5) {
		case 0:
			q.W, q.X = 0, 0
		case 1: // a small one with great numbers
			q = made[api.Quat](t)(algebra.Scale(n.quat(2, 1), api.Frac{Num: 300000, Den: n.between(1, 3)}))
		case 2:
			q = n.combination(t, a, l, 2)
		case 3:
			if zero, e := algebra.Divisor(a); e == api.OK {
				q = zero
			}
		}
		o, e := order.Conjugate(a, l, q)
		wanted, f := slowConjugate(a, l, q)
		wantResult(t, fmt.Sprint("Conjugate ", a, l, q), o, e, wanted, f)
		seen[e]++
	}
	if seen[api.OK] < 100 || seen[api.ErrLarge] < 30 || seen[api.ErrZero] < 5 {
		t.Errorf("results with these errors: %v", seen)
	}
}
