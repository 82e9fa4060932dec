package order_test

import (
	"fmt"
	"testing"

	"fourfold/algebra"
	"fourfold/api"
	"fourfold/lattice"
	"fourfold/order"
)

// The tests of this file are those of P4.1, and of the order of errors in all functions.

// gamma is the order of the matrices of integers whose number below the diagonal is a multiple of n.
func gamma(n int) api.Lattice {
	return of(2, [4]int{1, 1, 0, 0}, [4]int{0, 2, 0, 0}, [4]int{0, 0, 1, 1}, [4]int{0, 0, 0, 2 * n})
}

// multiples is the order of the integers and the multiples of i, j and k by n.
func multiples(n int) api.Lattice {
	return of(1, [4]int{1, 0, 0, 0}, [4]int{0, n, 0, 0}, [4]int{0, 0, n, 0}, [4]int{0, 0, 0, n})
}

// thick is the order of the integers and the multiples by n of the matrices of integers.
func thick(n int) api.Lattice {
	return of(2, [4]int{2, 0, 0, 0}, [4]int{n, n, 0, 0}, [4]int{0, 0, n, n}, [4]int{0, 0, 0, 2 * n})
}

// badLattices are lattices that are no orders, with the error of Check in the algebra (1, 1).
var badLattices = []struct {
	l api.Lattice
	e api.Errno
}{
	{api.Lattice{}, api.ErrRange}, {api.Lattice{Dim: 7, Den: 1}, api.ErrRange}, {api.Lattice{Dim: -1, Den: 1}, api.ErrRange},
	{api.Lattice{Dim: 4, Rows: lipschitz.Rows}, api.ErrRange}, {api.Lattice{Dim: 4, Rows: lipschitz.Rows, Den: -1}, api.ErrRange}, {api.Lattice{Dim: 4, Rows: lipschitz.Rows, Den: api.MaxEntry + 1}, api.ErrRange},
	{api.Lattice{Dim: 4, Rows: make([][]int, 65), Den: 1}, api.ErrLarge}, {api.Lattice{Dim: 4, Rows: [][]int{{1, 0, 0}}, Den: 1}, api.ErrShape}, {of(1, [4]int{1}, [4]int{least}), api.ErrRange}, {of(1, [4]int{0, api.MaxEntry + 1}), api.ErrRange},
	{api.Lattice{Dim: 3, Rows: [][]int{{1, 0, 0}, {0, 1, 0}, {0, 0, 1}}, Den: 1}, api.ErrShape}, {api.Lattice{Dim: 5, Rows: [][]int{{1, 0, 0, 0, 0}}, Den: 1}, api.ErrShape}, {api.Lattice{Dim: 1, Rows: [][]int{{1}}, Den: 1}, api.ErrShape},
	{of(1), api.ErrShape}, {of(1, [4]int{1, 0, 0, 0}), api.ErrShape}, {of(1, [4]int{1, 0, 0, 0}, [4]int{0, 1, 0, 0}, [4]int{0, 0, 1, 0}, [4]int{1, 1, 1, 0}), api.ErrShape}, {of(coord+1, [4]int{1, 0, 0, 0}, [4]int{0, 0, 0, 1}), api.ErrShape},
	{of(1, [4]int{0, 1, 0, 0}, [4]int{0, 0, 1, 0}, [4]int{0, 0, 0, 1}, [4]int{0, api.MaxEntry, 1, 1}), api.ErrShape},
	// too large, and no orders
	{of(coord+1, [4]int{1, 0, 0, 0}, [4]int{0, 1, 0, 0}, [4]int{0, 0, 1, 0}, [4]int{0, 0, 0, 1}), api.ErrLarge}, {of(1, [4]int{coord + 1, 0, 0, 0}, [4]int{0, 1, 0, 0}, [4]int{0, 0, 1, 0}, [4]int{0, 0, 0, 1}), api.ErrLarge},
	{of(1, [4]int{1, 0, 0, 1}, [4]int{0, 1, 0, 0}, [4]int{0, 0, 1, 0}, [4]int{0, 0, 0, coord + 1}), api.ErrLarge}, {of(1, [4]int{1, 2, 3, 4}, [4]int{api.MaxEntry, 7, 0, 0}, [4]int{0, 5, api.MaxEntry, 1}, [4]int{1, 0, 1, api.MaxEntry}), api.ErrLarge},
	{multiples(coord + 1), api.ErrLarge}, {gamma(coord/2 + 1), api.ErrLarge},
	// no orders
	{of(1, [4]int{2, 0, 0, 0}, [4]int{0, 1, 0, 0}, [4]int{0, 0, 1, 0}, [4]int{0, 0, 0, 1}), api.ErrOrder}, {of(2, [4]int{1, 0, 0, 0}, [4]int{0, 2, 0, 0}, [4]int{0, 0, 2, 0}, [4]int{0, 0, 0, 2}), api.ErrOrder},
	{of(1, [4]int{1, 0, 0, 0}, [4]int{0, 1, 0, 0}, [4]int{0, 0, 1, 0}, [4]int{0, 0, 0, 2}), api.ErrOrder}, {of(2, [4]int{2, 0, 0, 0}, [4]int{0, 1, 0, 0}, [4]int{0, 0, 2, 0}, [4]int{0, 0, 0, 2}), api.ErrOrder},
	{of(1, [4]int{1, 1, 0, 0}, [4]int{0, 2, 0, 0}, [4]int{0, 0, 1, 0}, [4]int{0, 0, 0, 1}), api.ErrOrder}, {of(coord, [4]int{1, 0, 0, 0}, [4]int{0, 1, 0, 0}, [4]int{0, 0, 1, 0}, [4]int{0, 0, 0, 1}), api.ErrOrder},
	{of(1, [4]int{1, 0, 0, 0}, [4]int{0, coord, 0, 0}, [4]int{0, 0, coord - 1, 0}, [4]int{0, 0, 0, 1}), api.ErrOrder}, {of(1, [4]int{coord, 0, 0, 0}, [4]int{0, coord, 0, 0}, [4]int{0, 0, coord, 0}, [4]int{0, 0, 0, coord}), api.ErrOrder},
	// orders with a great discriminant
	{of(1, [4]int{1, 0, 0, 0}, [4]int{0, coord, 0, 0}, [4]int{0, 0, coord, 0}, [4]int{0, 0, 0, 1}), api.ErrLarge}, {multiples(coord), api.ErrLarge}, {multiples(700), api.ErrLarge}, {thick(1001), api.ErrLarge},
}

func TestCheck(t *testing.T) {
	for _, x := range badLattices {
		want(t, fmt.Sprint("Check ", x.l), order.Check(matrices, x.l), x.e)
	}
	for _, x := range []struct {
		a api.Algebra
		l api.Lattice
		e api.Errno
	}{
		{hamilton, lipschitz, api.OK}, {hamilton, hurwitz, api.OK}, {matrices, hurwitz, api.OK}, {six, hurwitz, api.OK}, {api.Algebra{A: -1, B: -2}, hurwitz, api.ErrOrder}, {api.Algebra{A: 2, B: 5}, hurwitz, api.ErrOrder},
		{matrices, gamma(1), api.OK}, {matrices, gamma(coord / 2), api.OK}, {matrices, thick(1000), api.OK}, // the discriminant 10^9
		{hamilton, multiples(629), api.OK}, {hamilton, multiples(630), api.ErrLarge}, // 4 times the cube
		{api.Algebra{A: 1000, B: -1000}, lipschitz, api.OK}, {api.Algebra{A: -1000, B: -1000}, multiples(coord), api.ErrLarge}, {api.Algebra{A: 1000, B: 1000}, multiples(6), api.OK}, {api.Algebra{A: 1000, B: 1000}, multiples(7), api.ErrLarge},
		{hamilton, of(6, [4]int{0, 0, 0, -6}, [4]int{3, 3, 3, 3}, [4]int{6, 6, 0, 0}, [4]int{0, 6, 6, 6}, [4]int{0, 6, 0, 0}, [4]int{0, 0, 0, 0}), api.OK},
		{hamilton, of(api.MaxEntry, [4]int{api.MaxEntry}, [4]int{0, api.MaxEntry}, [4]int{0, 0, -api.MaxEntry}, [4]int{0, 0, 0, api.MaxEntry}), api.OK},
		{api.Algebra{}, api.Lattice{}, api.ErrZero}, {api.Algebra{A: 1001, B: 1}, api.Lattice{}, api.ErrRange}, {api.Algebra{A: 1}, lipschitz, api.ErrZero},
	} {
		want(t, fmt.Sprint("Check ", x.a, x.l), order.Check(x.a, x.l), x.e)
	}
}

// wantCheck compares Check with the definition, for a lattice of rank 4 with small numbers.
func wantCheck(t *testing.T, a api.Algebra, l api.Lattice) bool {
	t.Helper()
	h := echelonOf(slowRows(l))
	wanted := api.OK
	if !h.isOrder(a) {
		wanted = api.ErrOrder
	}
	want(t, fmt.Sprint("Check ", a, l), order.Check(a, l), wanted)
	return wanted == api.OK
}

func TestOrdersAndOthers(t *testing.T) {
	n := numbers(1)
	orders, others := 0, 0
	count := func(is bool) {
		if is {
			orders++
		} else {
			others++
		}
	}
	for range 150 {
		a := n.algebra()
		l := n.order(t, a)
		if _, d := discriminants(t, a, l); d > 1000000 {
			continue
		}
		count(wantCheck(t, a, l))
		count(wantCheck(t, n.algebra(), l))
		p := []int{2, 3}[n.between(0, 1)]
		parts := made[[]api.Lattice](t)(lattice.Sublattices(l, p))
		for range 5 {
			part := parts[n.between(0, len(parts)-1)]
			count(wantCheck(t, a, n.rewritten(part)))
			if larger, e := lattice.Scale(part, api.Frac{Num: 1, Den: p}); e == api.OK && larger.Den < 1000 {
				count(wantCheck(t, a, larger))
			}
		}
	}
	if orders < 200 || others < 200 {
		t.Errorf("%d orders, %d others", orders, others)
	}
}

func TestStandard(t *testing.T) {
	for _, a := range []api.Algebra{hamilton, six, matrices, {A: 1000, B: -1000}} {
		l, e := order.Standard(a)
		wantResult(t, fmt.Sprint("Standard ", a), l, e, lipschitz, api.OK)
		want(t, fmt.Sprint("Check of the standard order ", a), order.Check(a, l), api.OK)
	}
	for _, a := range []api.Algebra{{}, {A: 1}, {B: 1}, {A: 1001, B: 1}, {A: 1, B: -1001}} {
		l, e := order.Standard(a)
		wantError(t, fmt.Sprint("Standard ", a), algebra.Check(a), l, e)
	}
}

func TestBasis(t *testing.T) {
	l, e := order.Basis(hamilton, of(4, [4]int{4, 0, 0, 0}, [4]int{-2, 2, 2, -2}, [4]int{0, 4, 0, 0}, [4]int{0, 0, 4, 0}))
	wantResult(t, "Basis", l, e, []api.Quat{u, i, j, k}, api.OK)
	n := numbers(2)
	for range 100 {
		a := n.algebra()
		l := n.order(t, a)
		basis, e := order.Basis(a, l)
		var wanted []api.Quat
		normal := made[api.Lattice](t)(lattice.Normal(l))
		for _, r := range normal.Rows {
			wanted = append(wanted, made[api.Quat](t)(algebra.Normal(api.Quat{W: r[0], X: r[1], Y: r[2], Z: r[3], Den: normal.Den})))
		}
		wantResult(t, fmt.Sprint("Basis ", a, l), basis, e, wanted, api.OK)
	}
}

func TestContains(t *testing.T) {
	for _, x := range []struct {
		q  api.Quat
		is bool
	}{
		{one, true}, {api.Quat{Den: 5}, true}, {u, true}, {api.Quat{W: 3, X: -3, Y: 3, Z: 3, Den: 6}, true}, {api.Quat{W: coord, X: -coord, Den: 1}, true},
		{api.Quat{W: 1, Den: 2}, false}, {api.Quat{W: 1, X: 1, Den: 2}, false}, {api.Quat{Z: 1, Den: 3}, false}, {api.Quat{W: 1, X: 1, Y: 1, Z: 1, Den: 3}, false}, {api.Quat{Den: coord, X: 1}, false}, {api.Quat{W: 1, X: 1, Y: 1, Z: 2, Den: 2}, false},
	} {
		is, e := order.Contains(hamilton, hurwitz, x.q)
		wantResult(t, fmt.Sprint("Contains ", x.q), is, e, x.is, api.OK)
	}
	n := numbers(3)
	inside := 0
	for range 300 {
		a := n.algebra()
		l := n.order(t, a)
		h := echelonOf(slowRows(l))
		for _, q := range []api.Quat{n.combination(t, a, l, 3), n.quat(9, 3), n.quat(coord, 1)} {
			is, e := order.Contains(a, l, q)
			wantResult(t, fmt.Sprint("Contains ", a, l, q), is, e, h.holds(slowOf(q)), api.OK)
			if is {
				inside++
			}
		}
	}
	if inside < 300 || inside > 800 {
		t.Errorf("%d elements inside", inside)
	}
}

// arguments are what a function of the package is called with.
type arguments struct {
	a api.Algebra
	l api.Lattice
	q api.Quat
	n int
	t api.Type
	s []api.Quat
}

// function is a function of the package: whether it is given a lattice, whether it is one for definite algebras, whether it is given an element.
type function struct {
	lattice, definite, element bool
	call                       func(x arguments) []any
}

// functions are all functions of the package.
var functions = map[string]function{
	"Check":        {true, false, false, func(x arguments) []any { return all(order.Check(x.a, x.l)) }},
	"Standard":     {false, false, false, func(x arguments) []any { return all(order.Standard(x.a)) }},
	"Basis":        {true, false, false, func(x arguments) []any { return all(order.Basis(x.a, x.l)) }},
	"Contains":     {true, false, true, func(x arguments) []any { return all(order.Contains(x.a, x.l, x.q)) }},
	"Generated":    {false, false, false, func(x arguments) []any { return all(order.Generated(x.a, x.s)) }},
	"Gram":         {true, false, false, func(x arguments) []any { return all(order.Gram(x.a, x.l)) }},
	"Discriminant": {true, false, false, func(x arguments) []any { return all(order.Discriminant(x.a, x.l)) }},
	"Symbol":       {true, false, false, func(x arguments) []any { return all(order.Symbol(x.a, x.l, x.n)) }},
	"Overorders":   {true, false, false, func(x arguments) []any { return all(order.Overorders(x.a, x.l, x.n)) }},
	"IsMaximalAt":  {true, false, false, func(x arguments) []any { return all(order.IsMaximalAt(x.a, x.l, x.n)) }},
	"IsMaximal":    {true, false, false, func(x arguments) []any { return all(order.IsMaximal(x.a, x.l)) }},
	"MaximalAt":    {true, false, false, func(x arguments) []any { return all(order.MaximalAt(x.a, x.l, x.n)) }},
	"Maximal":      {true, false, false, func(x arguments) []any { return all(order.Maximal(x.a, x.l)) }},
	"Eichler":      {true, false, false, func(x arguments) []any { return all(order.Eichler(x.a, x.l, x.n)) }},
	"Level":        {true, false, false, func(x arguments) []any { return all(order.Level(x.a, x.l)) }},
	"Conjugate":    {true, false, true, func(x arguments) []any { return all(order.Conjugate(x.a, x.l, x.q)) }},
	"Elements":     {true, true, false, func(x arguments) []any { return all(order.Elements(x.a, x.l, x.n)) }},
	"Embeddings":   {true, true, false, func(x arguments) []any { return all(order.Embeddings(x.a, x.l, x.t)) }},
	"Units":        {true, true, false, func(x arguments) []any { return all(order.Units(x.a, x.l)) }},
	"Group":        {true, true, false, func(x arguments) []any { return all(order.Group(x.a, x.l)) }},
	"Generators":   {true, true, false, func(x arguments) []any { return all(order.Generators(x.a, x.l)) }},
}

// firstError is the first error of the algebra, the lattice and the element of a function.
func (f function) firstError(x arguments) api.Errno {
	if e := algebra.Check(x.a); e != api.OK || !f.lattice {
		return e
	}
	if e := order.Check(x.a, x.l); e != api.OK {
		return e
	}
	switch {
	case f.definite && (x.a.A > 0 || x.a.B > 0):
		return api.ErrDefinite
	case f.element:
		return algebra.CheckQuat(x.q)
	}
	return api.OK
}

func TestErrorsOfAlgebrasAndOrders(t *testing.T) {
	algebras := []api.Algebra{matrices, hamilton, six, {}, {A: 1}, {B: 1}, {A: 1001, B: 1}, {A: -1, B: -1001}}
	lattices := []api.Lattice{lipschitz, hurwitz}
	for _, x := range badLattices {
		lattices = append(lattices, x.l)
	}
	for name, f := range functions {
		for _, a := range algebras {
			for _, l := range lattices {
				x := arguments{a: a, l: l, n: -1, t: api.Type{Norm: -1}, s: make([]api.Quat, 9)} // with other errors behind
				if e := f.firstError(x); e != api.OK {
					wantError(t, fmt.Sprint(name, " ", x), e, f.call(x)...)
				}
			}
		}
	}
}
