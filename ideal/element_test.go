package ideal_test

import (
	"fmt"
	"math"
	"math/big"
	"slices"
	"testing"

	"fourfold/algebra"
	"fourfold/api"
	"fourfold/ideal"
	"fourfold/lattice"
)

// The tests of this file are those of P5.3 and P5.4.

// compareSlow compares elements in their order.
func compareSlow(x, y slow) int {
	return slices.CompareFunc(x[:], y[:], (*big.Rat).Cmp)
}

// weights are the factors of the squares of the coordinates in a norm.
func weights(a api.Algebra) [4]float64 {
	return [4]float64{1, float64(-a.A), float64(-a.B), float64(a.A * a.B)}
}

// slowElements looks at all elements whose coordinates are no greater than those of an element of the norm may be, in a definite algebra.
// It does so with numbers that are not exact, and looks more closely at those that come near.
func slowElements(a api.Algebra, g grid, norm *big.Rat) []slow {
	basis := g.canonical()
	size, _ := norm.Float64()
	near := 1e-9 + size*1e-6
	var rough [4][4]float64
	for r, b := range basis {
		for c := range 4 {
			rough[r][c], _ = b[c].Float64()
		}
	}
	var list []slow
	var choose func(multiples []int, x [4]float64, rest float64)
	choose = func(multiples []int, x [4]float64, rest float64) {
		c := len(multiples)
		if c == 4 {
			if math.Abs(rest) > near {
				return
			}
			if x := combined(basis, multiples); x.norm(a).Cmp(norm) == 0 {
				list = append(list, x)
			}
			return
		}
		bound := math.Sqrt((rest + near) / weights(a)[c])
		for n := math.Ceil((-bound - x[c]) / rough[c][c]); n <= (bound-x[c])/rough[c][c]; n++ {
			next := x
			for d := range 4 {
				next[d] += n * rough[c][d]
			}
			choose(append(multiples[:c:c], int(n)), next, rest-weights(a)[c]*next[c]*next[c])
		}
	}
	choose(nil, [4]float64{}, size)
	slices.SortFunc(list, compareSlow)
	return list
}

// combined is the sum of multiples of the elements of a basis.
func combined(basis grid, multiples []int) slow {
	sum := unit(0).scaled(rat(0, 1))
	for c, n := range multiples {
		sum = sum.plus(basis[c].scaled(rat(n, 1)))
	}
	return sum
}

// quats are elements as a result: in lowest terms, or ErrLarge.
func quats(list []slow) ([]api.Quat, api.Errno) {
	var result []api.Quat
	for _, x := range list {
		q, fits := x.quat()
		if !fits {
			return nil, api.ErrLarge
		}
		result = append(result, q)
	}
	return result, api.OK
}

// isFew reports whether slowElements looks at few elements for a multiple of the norm of the lattice.
func isFew(a api.Algebra, g grid, multiple int) bool {
	norm, _ := g.norm(a).Float64()
	count := 1.0
	for c, weight := range weights(a) {
		pivot, _ := g.canonical()[c][c].Float64()
		count *= 2*math.Sqrt(norm*float64(multiple)/weight)/pivot + 2
		if count > 20000 {
			return false
		}
	}
	return true
}

func TestElements(t *testing.T) {
	n := numbers(20)
	found, compared := 0, 0
	for range 400 {
		a := n.definite([]int{5, 30}[n.between(0, 1)])
		l := n.lattice(a)
		g := slowRows(l)
		multiple := n.between(0, 12)
		if !isFew(a, g, multiple) {
			continue
		}
		compared++
		norm := new(big.Rat).Mul(g.norm(a), rat(multiple, 1))
		if n.between(0, 9) == 0 { // there are none
			norm.Add(norm, new(big.Rat).Mul(g.norm(a), rat(1, 3)))
		}
		f := made[api.Frac](t)(fraction(norm))
		by := n.between(1, 3)
		wanted, h := quats(slowElements(a, g, norm))
		list, e := ideal.Elements(a, n.rewritten(l), api.Frac{Num: by * f.Num, Den: by * f.Den})
		wantResult(t, fmt.Sprint("Elements ", a, l, norm), list, e, wanted, h)
		found += len(list)
	}
	if compared < 150 || found < 1000 {
		t.Errorf("only %d lattices, and %d elements", compared, found)
	}
}

func TestExamplesOfElements(t *testing.T) {
	for norm, count := range []int{1, 24, 24, 96, 24, 144, 96, 192, 24, 312} {
		list, e := ideal.Elements(hamilton, hurwitz, api.Frac{Num: norm, Den: 1})
		want(t, fmt.Sprint("Elements of norm ", norm), e, api.OK)
		want(t, fmt.Sprint("the number of elements of norm ", norm), len(list), count)
	}
	zero := []api.Quat{{Den: 1}}
	for _, f := range []api.Frac{{Num: 0, Den: 1}, {Num: 0, Den: 7}, {Num: 0, Den: greatest}} {
		list, e := ideal.Elements(eleven, of(7, [4]int{1, 2, 3, 4}, [4]int{0, 5, 0, 0}, [4]int{0, 0, 6, 1}, [4]int{0, 0, 0, 1}), f)
		wantResult(t, "Elements of norm 0", list, e, zero, api.OK)
	}
	list, e := ideal.Elements(hamilton, lipschitz, api.Frac{Num: 12, Den: 4})
	want(t, "Elements of norm 12/4", e, api.OK)
	want(t, "the number of elements of norm 12/4", len(list), 32)
	want(t, "the first one", list[0], api.Quat{W: -1, X: -1, Y: -1, Den: 1})
	want(t, "the last one", list[31], api.Quat{W: 1, X: 1, Y: 1, Den: 1})
	list, e = ideal.Elements(hamilton, lipschitz, api.Frac{Num: 3, Den: 4})
	wantResult(t, "Elements of norm 3/4", list, e, []api.Quat{}, api.OK)
	list, e = ideal.Elements(hamilton, lipschitz, api.Frac{Num: 1, Den: greatest})
	wantResult(t, "Elements of a tiny norm", list, e, []api.Quat{}, api.OK)
}

// sumOfDivisors is that of the divisors of n that are odd.
func sumOfDivisors(n int) int {
	sum := 0
	for d := 1; d <= n; d += 2 {
		if n%d == 0 {
			sum += d
		}
	}
	return sum
}

func TestElementsOfGreatNorms(t *testing.T) {
	for _, norm := range []int{512, 999, 1000, 600, 825, 831, 829, 835, 839, 840, 945, 997} {
		list, e := ideal.Elements(hamilton, hurwitz, api.Frac{Num: norm, Den: 1})
		count := 24 * sumOfDivisors(norm)
		if count > api.MaxShort {
			wantError(t, fmt.Sprint("Elements of norm ", norm), api.ErrLarge, list, e)
			continue
		}
		want(t, fmt.Sprint("Elements of norm ", norm), e, api.OK)
		want(t, fmt.Sprint("the number of elements of norm ", norm), len(list), count)
		for c, q := range list {
			want(t, "the norm", made[api.Frac](t)(algebra.Norm(hamilton, q)), api.Frac{Num: norm, Den: 1})
			if c > 0 && compareSlow(slowOf(list[c-1]), slowOf(q)) >= 0 {
				t.Fatalf("%v before %v", list[c-1], q)
			}
		}
	}
}

func TestErrorsOfElements(t *testing.T) {
	double := of(1, [4]int{2, 0, 0, 0}, [4]int{0, 2, 0, 0}, [4]int{0, 0, 2, 0}, [4]int{0, 0, 0, 2})
	great := of(1, [4]int{coord, 0, 0, 0}, [4]int{0, coord, 0, 0}, [4]int{0, 0, coord, 0}, [4]int{0, 0, 0, coord})
	for _, x := range []struct {
		a    api.Algebra
		l    api.Lattice
		norm api.Frac
		e    api.Errno
	}{
		{api.Algebra{A: -1, B: 0}, api.Lattice{}, api.Frac{}, api.ErrZero}, {api.Algebra{A: -1, B: -1001}, api.Lattice{}, api.Frac{}, api.ErrRange},
		{six, api.Lattice{}, api.Frac{}, api.ErrDefinite}, {matrices, hurwitz, api.Frac{Num: 1, Den: 1}, api.ErrDefinite}, {api.Algebra{A: 3, B: -1}, hurwitz, api.Frac{Num: 1, Den: 1}, api.ErrDefinite},
		{hamilton, api.Lattice{}, api.Frac{}, api.ErrRange}, {hamilton, api.Lattice{Dim: 4, Den: 1}, api.Frac{}, api.ErrShape},
		{hamilton, hurwitz, api.Frac{}, api.ErrForm}, {hamilton, hurwitz, api.Frac{Num: -1, Den: -1}, api.ErrForm}, {hamilton, hurwitz, api.Frac{Num: least, Den: least}, api.ErrForm}, {hamilton, hurwitz, api.Frac{Num: 1, Den: 0}, api.ErrForm},
		{hamilton, hurwitz, api.Frac{Num: -1, Den: 1}, api.ErrRange}, {hamilton, hurwitz, api.Frac{Num: least, Den: greatest}, api.ErrRange}, {hamilton, hurwitz, api.Frac{Num: -1, Den: greatest}, api.ErrRange},
		{hamilton, hurwitz, api.Frac{Num: 1001, Den: 1}, api.ErrRange}, {hamilton, hurwitz, api.Frac{Num: 3001, Den: 3}, api.ErrRange}, {hamilton, hurwitz, api.Frac{Num: greatest, Den: 1}, api.ErrRange}, {hamilton, double, api.Frac{Num: 4001, Den: 1}, api.ErrRange},
		{hamilton, hurwitz, api.Frac{Num: 945, Den: 1}, api.ErrLarge}, // 46080 elements
		{hamilton, great, api.Frac{Num: 2 * coord * coord, Den: 1}, api.OK}, {hamilton, great, api.Frac{Num: 4 * coord * coord, Den: 1}, api.ErrLarge}, {hamilton, great, api.Frac{Num: 5 * coord * coord, Den: 1}, api.ErrLarge},
		{hamilton, of(coord, lipschitzRows()...), api.Frac{Num: 1000, Den: coord * coord}, api.OK}, {hamilton, of(coord, lipschitzRows()...), api.Frac{Num: 1001, Den: coord * coord}, api.ErrRange},
		{hamilton, double, api.Frac{Num: 4000, Den: 1}, api.OK}, {hamilton, hurwitz, api.Frac{Num: 2999, Den: 3}, api.OK},
	} {
		list, e := ideal.Elements(x.a, x.l, x.norm)
		if x.e != api.OK {
			wantError(t, fmt.Sprint("Elements ", x.a, x.l, x.norm), x.e, list, e)
			continue
		}
		want(t, fmt.Sprint("Elements ", x.a, x.l, x.norm), e, api.OK)
	}
}

// slowMaps looks at all elements that take m into l and have the right norm.
func slowMaps(a api.Algebra, l, m grid) []slow {
	norm := new(big.Rat).Quo(l.norm(a), m.norm(a))
	var list []slow
	for _, x := range slowElements(a, into(a, l, m), norm) {
		if grid(products(a, []slow{x}, m)).isSame(l) {
			list = append(list, x)
		}
	}
	return list
}

// wantMaps checks Maps and Equivalent, and returns the number of maps.
func wantMaps(t *testing.T, a api.Algebra, l, m api.Lattice, wanted []slow) int {
	t.Helper()
	what := fmt.Sprint(" ", a, l, m)
	list, e := ideal.Maps(a, l, m)
	expected, f := quats(wanted)
	wantResult(t, "Maps"+what, list, e, expected, f)
	x, is, e := ideal.Equivalent(a, l, m)
	first := api.Quat{}
	if len(expected) > 0 {
		first = expected[0]
	}
	wantResult(t, "Equivalent"+what, x, e, first, f)
	want(t, "Equivalent"+what, is, len(expected) > 0)
	return len(list)
}

func TestMaps(t *testing.T) {
	n := numbers(21)
	equivalent, others := 0, 0
	for range 250 {
		a := n.definite([]int{3, 12}[n.between(0, 1)])
		m := n.lattice(a)
		l := n.lattice(a)
		switch x := n.quat(4, 3); {
		case n.between(0, 3) == 0:
		case x == api.Quat{Den: x.Den}:
			continue
		default:
			l = grid(products(a, []slow{slowOf(x)}, slowRows(m))).lattice()
		}
		if n.between(0, 5) == 0 { // of the same volume as a multiple, perhaps
			l = made[[]api.Lattice](t)(lattice.Sublattices(l, 2))[n.between(0, 14)]
		}
		if _, fits := slowRows(l).small(); !fits || !isFew(a, into(a, slowRows(l), slowRows(m)), 1) {
			continue
		}
		if wantMaps(t, a, n.rewritten(l), n.rewritten(m), slowMaps(a, slowRows(l), slowRows(m))) > 0 {
			equivalent++
		} else {
			others++
		}
	}
	if equivalent < 100 || others < 40 {
		t.Errorf("%d equivalent lattices, %d others", equivalent, others)
	}
}

func TestMapsOfClasses(t *testing.T) {
	for _, x := range []struct {
		a     api.Algebra
		level int
	}{{eleven, 1}, {hamilton, 11}, {api.Algebra{A: -1, B: -7}, 3}} {
		o := eichler(t, x.a, x.level)
		list := append(made[[]api.Lattice](t)(ideal.OfNorm(x.a, o, 5)), o)
		for _, l := range list {
			for _, m := range list {
				wantMaps(t, x.a, l, m, slowMaps(x.a, slowRows(l), slowRows(m)))
			}
		}
	}
}

func TestMapsThatAreTooLarge(t *testing.T) {
	tiny := of(coord, lipschitzRows()...)
	for _, x := range []struct {
		q api.Quat
		e api.Errno
	}{{api.Quat{W: 1, X: 1, Y: 1, Den: 1}, api.OK}, {api.Quat{W: 2, X: 1, Den: 1}, api.ErrLarge}} {
		l := made[api.Lattice](t)(ideal.Times(hamilton, x.q, lipschitz))
		list, e := ideal.Maps(hamilton, l, tiny)
		q, is, f := ideal.Equivalent(hamilton, l, tiny)
		if x.e == api.OK {
			want(t, "the number of maps with great numbers", len(list), 8)
			want(t, "Equivalent with great numbers", is, true)
			continue
		}
		wantError(t, "Maps with great numbers", x.e, list, e)
		wantError(t, "Equivalent with great numbers", x.e, q, is, f)
	}
	// With the integers of a third root of unity the first map, -900000 (1 + k), is not too large, but others are.
	a := api.Algebra{A: -3, B: -1}
	o := grid(slowRows(of(2, [4]int{1, 1, 0, 0}, [4]int{0, 2, 0, 0}, [4]int{0, 0, 5, 5}, [4]int{0, 0, 0, 10})))
	y := slowOf(api.Quat{W: 2, Z: 2, Den: 1})
	l, m := grid(products(a, []slow{y}, o)).lattice(), grid(products(a, []slow{slowOf(api.Quat{W: 1, Den: 450000})}, o)).lattice()
	maps := slowMaps(a, slowRows(l), slowRows(m))
	want(t, "the number of maps", len(maps), 6)
	want(t, "the first map", fmt.Sprint(maps[0]), fmt.Sprint(y.scaled(rat(-450000, 1))))
	wantMaps(t, a, l, m, maps)
}

func TestErrorsOfMaps(t *testing.T) {
	large := of(1, [4]int{coord + 1, 0, 0, 0}, [4]int{0, 1, 0, 0}, [4]int{0, 0, 1, 0}, [4]int{0, 0, 0, 1})
	for _, x := range []struct {
		a    api.Algebra
		l, m api.Lattice
		e    api.Errno
	}{
		{api.Algebra{B: -1}, api.Lattice{}, api.Lattice{}, api.ErrZero}, {api.Algebra{A: -1001, B: 1}, api.Lattice{}, api.Lattice{}, api.ErrRange}, {six, api.Lattice{}, api.Lattice{}, api.ErrDefinite}, {matrices, hurwitz, hurwitz, api.ErrDefinite},
		{hamilton, api.Lattice{}, large, api.ErrRange}, {hamilton, large, api.Lattice{}, api.ErrLarge}, {hamilton, hurwitz, api.Lattice{}, api.ErrRange}, {hamilton, hurwitz, api.Lattice{Dim: 4, Den: 1}, api.ErrShape}, {hamilton, hurwitz, large, api.ErrLarge}, {hamilton, api.Lattice{Dim: 3, Den: 1}, large, api.ErrShape},
	} {
		list, e := ideal.Maps(x.a, x.l, x.m)
		wantError(t, fmt.Sprint("Maps ", x.a, x.l, x.m), x.e, list, e)
		q, is, e := ideal.Equivalent(x.a, x.l, x.m)
		wantError(t, fmt.Sprint("Equivalent ", x.a, x.l, x.m), x.e, q, is, e)
		if x.l.Dim != 4 || len(x.l.Rows) == 0 {
			q, is, e = ideal.Principal(x.a, x.l)
			wantError(t, fmt.Sprint("Principal ", x.a, x.l), x.e, q, is, e)
		}
	}
	q, is, e := ideal.Principal(six, hurwitz)
	wantError(t, "Principal in an algebra that is not definite", api.ErrDefinite, q, is, e)
	q, is, e = ideal.Principal(hamilton, large)
	wantError(t, "Principal of a lattice that is too large", api.ErrLarge, q, is, e)
	// The right order has greater numbers than the lattice.
	wide := of(1, [4]int{1, 0, 0, 0}, [4]int{0, 997, 0, 0}, [4]int{0, 0, 991, 0}, [4]int{0, 0, 0, 983})
	right, e := ideal.RightOrder(hamilton, wide)
	wantError(t, "RightOrder of a lattice with great numbers", api.ErrLarge, right, e)
	q, is, e = ideal.Principal(hamilton, wide)
	wantError(t, "Principal of a lattice with great numbers", api.ErrLarge, q, is, e)
}

func TestPrincipal(t *testing.T) {
	n := numbers(22)
	principal, others := 0, 0
	for range 300 {
		a := n.definite(20)
		l := n.lattice(a)
		right := rightOrder(a, slowRows(l))
		if _, fits := right.small(); !fits || !isFew(a, into(a, slowRows(l), right), 1) {
			continue
		}
		list := slowMaps(a, slowRows(l), right)
		wanted := api.Quat{}
		if len(list) > 0 {
			wanted, _ = list[0].quat()
			principal++
		} else {
			others++
		}
		x, is, e := ideal.Principal(a, n.rewritten(l))
		wantResult(t, fmt.Sprint("Principal ", a, l), x, e, wanted, api.OK)
		want(t, fmt.Sprint("Principal ", a, l), is, len(list) > 0)
	}
	if principal < 50 || others < 25 {
		t.Errorf("%d principal lattices, %d others", principal, others)
	}
	x, is, e := ideal.Principal(hamilton, hurwitz)
	wantResult(t, "Principal of an order", x, e, api.Quat{W: -1, Den: 1}, api.OK)
	want(t, "Principal of an order", is, true)
}
