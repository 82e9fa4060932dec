package algebra_test

import (
	"fmt"
	"slices"
	"testing"

	"fourfold/algebra"
	"fourfold/api"
)

// The tests of this file are those of P3.7.

func TestIsomorphic(t *testing.T) {
	for _, x := range []struct {
		a, b api.Algebra
		want bool
	}{
		{hamilton, api.Algebra{A: -1, B: -3}, false}, {api.Algebra{A: -2, B: -2}, api.Algebra{A: -1, B: -3}, false},
		{hamilton, api.Algebra{A: -1, B: -2}, true}, {hamilton, api.Algebra{A: -2, B: -2}, true}, {hamilton, hamilton, true},
		{hamilton, api.Algebra{A: -900, B: -1000}, true}, {six, api.Algebra{A: 3, B: -1}, true}, {six, hamilton, false},
		{matrices, api.Algebra{A: -1, B: 2}, true}, {matrices, api.Algebra{A: 1, B: 5}, true}, {matrices, six, false},
		{six, api.Algebra{A: 2, B: 3}, true}, {six, api.Algebra{A: 2, B: 5}, false},
	} {
		is, e := algebra.Isomorphic(x.a, x.b)
		wantResult(t, fmt.Sprint("Isomorphic ", x.a, x.b), is, e, x.want, api.OK)
	}
	n := numbers(12)
	for range 3000 {
		a, b := api.Algebra{A: n.between(1, 30), B: n.between(1, 30)}, api.Algebra{A: -n.between(1, 30), B: n.between(1, 30)}
		if n.between(0, 1) == 0 {
			a.A, a.B, b.B = -a.A, -a.B, -b.B
		}
		p, infinite := places(t, a)
		q, too := places(t, b)
		is, e := algebra.Isomorphic(a, b)
		wantResult(t, fmt.Sprint("Isomorphic ", a, b), is, e, slices.Equal(p, q) && infinite == too, api.OK)
	}
}

// rootsOf are the pure elements whose square is n, with numerators from -8 to 8 and the denominator 1 or 2, in the order of the search.
func rootsOf(b api.Algebra, n int) []api.Quat {
	var list []api.Quat
	for den := 1; den <= 2; den++ {
		for x := -8; x <= 8; x++ {
			for y := -8; y <= 8; y++ {
				for z := -8; z <= 8; z++ {
					even := x%2 == 0 && y%2 == 0 && z%2 == 0
					if b.A*x*x+b.B*y*y-b.A*b.B*z*z == n*den*den && (den == 1 || !even) {
						list = append(list, api.Quat{X: x, Y: y, Z: z, Den: den})
					}
				}
			}
		}
	}
	return list
}

// found is the result of Isomorphism, and whether there are roots of both numbers.
func found(a, b api.Algebra) (x, y api.Quat, e api.Errno, roots bool) {
	if is, _ := algebra.Isomorphic(a, b); !is {
		return api.Quat{}, api.Quat{}, api.ErrNone, false
	}
	first, second := rootsOf(b, a.A), rootsOf(b, a.B)
	for _, x := range first {
		for _, y := range second {
			if b.A*x.X*y.X+b.B*x.Y*y.Y-b.A*b.B*x.Z*y.Z == 0 {
				return x, y, api.OK, true
			}
		}
	}
	return api.Quat{}, api.Quat{}, api.ErrOpen, len(first) > 0 && len(second) > 0
}

// wantIsomorphism checks Isomorphism, and returns its error.
func wantIsomorphism(t *testing.T, a, b api.Algebra) api.Errno {
	t.Helper()
	x, y, e := algebra.Isomorphism(a, b)
	v, w, f, _ := found(a, b)
	wantResult(t, fmt.Sprint("Isomorphism ", a, b), []api.Quat{x, y}, e, []api.Quat{v, w}, f)
	if e == api.OK {
		want(t, fmt.Sprint("CheckIsomorphism ", a, b, x, y), algebra.CheckIsomorphism(a, b, []api.Quat{x, y}), api.OK)
	}
	return e
}

func TestSpecialIsomorphisms(t *testing.T) {
	minus := func(x, y, z int) api.Quat { return api.Quat{X: -x, Y: -y, Z: -z, Den: 1} }
	for _, z := range []struct {
		a, b api.Algebra
		x, y api.Quat
		e    api.Errno
	}{
		{api.Algebra{A: -1, B: -2}, hamilton, minus(1, 0, 0), minus(0, 1, 1), api.OK},
		{hamilton, hamilton, minus(1, 0, 0), minus(0, 1, 0), api.OK},
		{hamilton, api.Algebra{A: -1, B: -3}, api.Quat{}, api.Quat{}, api.ErrNone},
		{hamilton, matrices, api.Quat{}, api.Quat{}, api.ErrNone},
		{api.Algebra{A: -64, B: -64}, hamilton, minus(8, 0, 0), minus(0, 8, 0), api.OK},                // at the end of the search
		{api.Algebra{A: -192, B: -2}, hamilton, minus(8, 8, 8), api.Quat{X: -1, Z: 1, Den: 1}, api.OK}, // in its corner
		{api.Algebra{A: -192, B: -128}, hamilton, minus(8, 8, 8), api.Quat{X: -8, Z: 8, Den: 1}, api.OK},
		{api.Algebra{A: -128, B: -129}, hamilton, minus(8, 8, 0), api.Quat{X: -8, Y: 8, Z: -1, Den: 1}, api.OK},
		{api.Algebra{A: -1, B: -81}, hamilton, api.Quat{}, api.Quat{}, api.ErrOpen},                                                             // beyond it: 9 j
		{api.Algebra{A: -1, B: -450}, hamilton, api.Quat{}, api.Quat{}, api.ErrOpen},                                                            // no second root
		{api.Algebra{A: -450, B: -1}, hamilton, api.Quat{}, api.Quat{}, api.ErrOpen},                                                            // no first root
		{api.Algebra{A: 1, B: 1}, api.Algebra{A: 2, B: 2}, api.Quat{X: -3, Y: -1, Z: -2, Den: 2}, api.Quat{X: -3, Y: 1, Z: -2, Den: 2}, api.OK}, // halves
		{api.Algebra{A: -1000, B: -1000}, hamilton, api.Quat{}, api.Quat{}, api.ErrOpen},
	} {
		x, y, e := algebra.Isomorphism(z.a, z.b)
		wantResult(t, fmt.Sprint("Isomorphism ", z.a, z.b), []api.Quat{x, y}, e, []api.Quat{z.x, z.y}, z.e)
	}
}

func TestIsomorphism(t *testing.T) {
	n := numbers(13)
	count := map[string]int{}
	look := func(a, b api.Algebra) {
		e := wantIsomorphism(t, a, b)
		x, _, _, roots := found(a, b)
		count[fmt.Sprint(e, x.Den, roots)]++
	}
	for range 1500 {
		most := []int{6, 40, 1000}[n.between(0, 2)]
		a := api.Algebra{A: n.between(1, most), B: n.between(1, most)}
		b := api.Algebra{A: n.between(1, 12), B: n.between(1, 12)}
		if n.between(0, 2) > 0 {
			a.A, b.A = -a.A, -b.A
		}
		if n.between(0, 1) > 0 {
			a.B, b.B = -a.B, -b.B
		}
		look(a, b)
		look(b, b)
	}
	for range 200 { // an algebra in itself, with other numbers
		b := api.Algebra{A: -n.between(1, 5), B: n.between(-5, -1)}
		square := n.between(1, 9)
		look(api.Algebra{A: b.A * square * square, B: b.B}, b)
		look(api.Algebra{A: b.B, B: -b.A * b.B}, b)
	}
	for _, x := range []string{
		fmt.Sprint(api.OK, 1, true), fmt.Sprint(api.OK, 2, true), fmt.Sprint(api.ErrNone, 0, false), fmt.Sprint(api.ErrOpen, 0, false), fmt.Sprint(api.ErrOpen, 0, true),
	} {
		if count[x] < 5 {
			t.Errorf("how often the cases have been looked at (error, denominator, roots): %v", count)
		}
	}
}

func TestImagesThatAreAccepted(t *testing.T) {
	for _, z := range []struct {
		a, b api.Algebra
		x, y api.Quat
	}{
		{hamilton, hamilton, i, j}, {hamilton, hamilton, k, i}, {six, six, i, j}, {matrices, matrices, i, j},
		{api.Algebra{A: -1, B: -2}, hamilton, i, api.Quat{Y: 1, Z: 1, Den: 1}},
		{api.Algebra{A: -1, B: -2}, hamilton, api.Quat{X: 6, Den: 6}, api.Quat{Y: coord, Z: -coord, Den: coord}},
		{hamilton, hamilton, api.Quat{X: 3, Y: 4, Den: 5}, api.Quat{X: -4, Y: 3, Den: 5}},
		{matrices, matrices, api.Quat{X: 1, Y: 1000, Z: 1000, Den: 1}, api.Quat{X: 1000, Y: 499999, Z: 500000, Den: 1}},
		{api.Algebra{A: -1000, B: 1000}, api.Algebra{A: -1000, B: 1000}, api.Quat{X: coord, Den: coord}, api.Quat{Y: -coord, Den: coord}},
	} {
		want(t, fmt.Sprint("CheckIsomorphism ", z.a, z.b, z.x, z.y), algebra.CheckIsomorphism(z.a, z.b, []api.Quat{z.x, z.y}), api.OK)
	}
}

func TestImagesThatAreRefused(t *testing.T) {
	zero := api.Quat{Den: 1}
	for _, z := range []struct {
		what string
		a, b api.Algebra
		l    []api.Quat
		e    api.Errno
	}{
		{"no elements", hamilton, hamilton, nil, api.ErrShape},
		{"one element", hamilton, hamilton, []api.Quat{i}, api.ErrShape},
		{"three elements", hamilton, hamilton, []api.Quat{i, j, k}, api.ErrShape},
		{"an element that is not valid", hamilton, hamilton, []api.Quat{{}}, api.ErrShape},
		{"three elements that are not valid", hamilton, hamilton, make([]api.Quat, 3), api.ErrShape},
		{"a first element that is not valid", hamilton, hamilton, []api.Quat{{X: 1}, j}, api.ErrForm},
		{"a second element that is not valid", hamilton, hamilton, []api.Quat{i, {Y: coord + 1, Den: coord + 1}}, api.ErrForm},
		{"a wrong element and one that is not valid", hamilton, hamilton, []api.Quat{zero, {}}, api.ErrForm},
		{"zeros", hamilton, hamilton, []api.Quat{zero, zero}, api.ErrProof},
		{"a wrong first square", api.Algebra{A: -2, B: -1}, hamilton, []api.Quat{i, j}, api.ErrProof},
		{"a wrong second square", api.Algebra{A: -1, B: -2}, hamilton, []api.Quat{i, j}, api.ErrProof},
		{"a wrong sign", api.Algebra{A: 1, B: -1}, hamilton, []api.Quat{i, j}, api.ErrProof},
		{"elements in the other order", six, six, []api.Quat{j, i}, api.ErrProof},
		{"the algebras in the other order", hamilton, api.Algebra{A: -1, B: -2}, []api.Quat{i, {Y: 1, Z: 1, Den: 1}}, api.ErrProof},
		{"elements that commute", hamilton, hamilton, []api.Quat{i, i}, api.ErrProof},
		{"elements whose product changes otherwise", hamilton, hamilton, []api.Quat{i, {X: 3, Y: 4, Den: 5}}, api.ErrProof},
		{"a rational root", api.Algebra{A: 4, B: -1}, hamilton, []api.Quat{{W: 2, Den: 1}, j}, api.ErrProof},
		{"a square that is not rational", api.Algebra{A: -1, B: -1}, hamilton, []api.Quat{{W: 1, X: 1, Den: 1}, j}, api.ErrProof},
		{"a square that is nearly right", hamilton, hamilton, []api.Quat{{X: coord, Y: 1, Den: coord}, k}, api.ErrProof},
		{"the greatest elements", matrices, api.Algebra{A: 1000, B: 1000}, []api.Quat{{W: coord, X: coord, Y: coord, Z: coord, Den: 1}, {W: -coord, X: -coord, Y: coord, Z: coord, Den: 1}}, api.ErrProof},
	} {
		want(t, "CheckIsomorphism with "+z.what, algebra.CheckIsomorphism(z.a, z.b, z.l), z.e)
	}
	for _, l := range [][]api.Quat{nil, make([]api.Quat, 2)} {
		want(t, "CheckIsomorphism without a first algebra", algebra.CheckIsomorphism(api.Algebra{}, api.Algebra{A: 1001, B: 1}, l), api.ErrZero)
		want(t, "CheckIsomorphism without a second algebra", algebra.CheckIsomorphism(hamilton, api.Algebra{A: 1001, B: 1}, l), api.ErrRange)
	}
}

func TestCheckIsomorphismByProducts(t *testing.T) {
	n := numbers(14)
	signs := []int{-2, -1, 1, 2}
	accepted := 0
	for range 20000 {
		b := api.Algebra{A: signs[n.between(0, 3)], B: signs[n.between(0, 3)]}
		x, y := n.quat(1, 1), n.quat(1, 1)
		if n.between(0, 3) > 0 {
			x.W, y.W = 0, 0
		}
		square, other := slowOf(x).times(b, slowOf(x)), slowOf(y).times(b, slowOf(y))
		if square[0].Sign() == 0 || other[0].Sign() == 0 {
			continue
		}
		a := api.Algebra{A: int(square[0].Num().Int64()), B: int(other[0].Num().Int64())}
		sum := slowOf(x).times(b, slowOf(y)).plus(slowOf(y).times(b, slowOf(x)))
		right := api.OK
		for c := range 4 {
			if sum[c].Sign() != 0 || c > 0 && (square[c].Sign() != 0 || other[c].Sign() != 0) {
				right = api.ErrProof
			}
		}
		if right == api.OK {
			accepted++
		}
		want(t, fmt.Sprint("CheckIsomorphism ", a, b, x, y), algebra.CheckIsomorphism(a, b, []api.Quat{x, y}), right)
	}
	if accepted < 500 {
		t.Errorf("only %d pairs of images", accepted)
	}
}
