package lattice_test

import (
	"fmt"
	"math/big"
	"testing"

	"fourfold/api"
	"fourfold/lattice"
)

// The tests of this file are those of P2.2 and P2.3.

// wantHermite checks that h and u are the Hermite form of m and a transformation.
func wantHermite(t *testing.T, m, h matrix, u [][]api.Int, e api.Errno) {
	t.Helper()
	what := fmt.Sprint("Hermite of ", m)
	want(t, what, e, api.OK)
	if !isHermite(h) {
		t.Errorf("%s: %v is no Hermite form", what, h)
	}
	change := bigInts(t, u)
	wantUnimodular(t, what, change, len(m))
	columns := 0
	if len(m) > 0 {
		columns = len(m[0])
	}
	if !same(bigTimes(change, bigOf(m), columns), bigOf(h)) {
		t.Errorf("%s: the transformation does not give %v", what, h)
	}
}

func TestHermite(t *testing.T) {
	for _, x := range []struct{ m, want matrix }{
		{matrix{{2, 4}, {6, 8}}, matrix{{2, 0}, {0, 4}}}, {nil, nil}, {matrix{{}, {}}, matrix{{}, {}}}, {matrix{{0}}, matrix{{0}}}, {matrix{{-3}}, matrix{{3}}},
		{matrix{{0, 0}, {0, -2}}, matrix{{0, 2}, {0, 0}}}, {matrix{{6}, {10}, {15}}, matrix{{1}, {0}, {0}}}, {matrix{{1, 5}, {0, 3}}, matrix{{1, 2}, {0, 3}}}, {matrix{{1, -5}, {0, 3}}, matrix{{1, 1}, {0, 3}}},
		{matrix{{1, limit}, {0, limit}}, matrix{{1, 0}, {0, limit}}}, {matrix{{0, 4, 7}, {0, 6, 1}}, matrix{{0, 2, 13}, {0, 0, 19}}}, {matrix{{-limit, limit}}, matrix{{limit, -limit}}},
	} {
		h, u, e := lattice.Hermite(x.m)
		wantResult(t, fmt.Sprint("Hermite of ", x.m), h, e, x.want, api.OK)
		wantHermite(t, x.m, h, u, e)
	}
	n := numbers(4)
	for k := range 600 {
		m := n.matrix(n.between(1, 5), n.between(1, 5), []int{1, 3, 9}[k%3])
		h, u, e := lattice.Hermite(m)
		wantHermite(t, m, h, u, e)
		wantResult(t, fmt.Sprint("Hermite of ", m), h, e, slowHermite(m), api.OK)
	}
}

func TestLargeHermiteForms(t *testing.T) {
	n := numbers(5)
	above := diagonal(1, 1, 1, 1)
	for i := range above {
		for j := i + 1; j < len(above); j++ {
			above[i][j] = n.between(-limit, limit)
		}
	}
	for _, m := range []matrix{
		above, turned(above), n.matrix(9, 4, limit), n.matrix(12, 10, limit), n.matrix(40, 20, 5), n.matrix(64, 62, 1), n.matrix(64, 1, limit), filled(64, 64, -limit), times(n.matrix(20, 3, 4), n.matrix(3, 15, 4)),
	} {
		h, u, e := lattice.Hermite(m)
		wantHermite(t, m, h, u, e)
	}
	for _, m := range []matrix{
		{{1, 0}, {1, limit}, {0, limit - 1}, {0, 7}}, {{limit, 0, 0}, {1, limit, 0}, {0, 1, limit}},
		{{limit - 1, 1}, {limit, limit}}, {{3, limit}, {2, -limit}}, n.matrix(64, 64, limit), n.matrix(3, 3, limit),
	} {
		h, u, e := lattice.Hermite(m)
		if e == api.OK {
			wantHermite(t, m, h, u, e)
			continue
		}
		wantError(t, fmt.Sprint("Hermite of ", m), api.ErrLarge, h, u, e)
	}
	wantError(t, "Hermite with a large pivot", api.ErrLarge, all(lattice.Hermite(matrix{{limit - 1, 1}, {limit, limit}}))...)
	wantError(t, "Hermite with a large number beside the pivots", api.ErrLarge, all(lattice.Hermite(matrix{{3, limit}, {2, -limit}}))...)
	h, u, e := lattice.Hermite(matrix{{2, 0}, {1, limit / 2}})
	wantResult(t, "Hermite up to the limit", h, e, matrix{{1, limit / 2}, {0, limit}}, api.OK)
	wantHermite(t, matrix{{2, 0}, {1, limit / 2}}, h, u, e)
	wantError(t, "Hermite beyond the limit", api.ErrLarge, all(lattice.Hermite(matrix{{2, -1}, {1, limit / 2}}))...)
}

// minors are the greatest common divisors of all minors of each size.
func minors(m matrix, columns int) []*big.Int {
	var list []*big.Int
	for k := 1; k <= min(len(m), columns); k++ {
		g := new(big.Int)
		for rows := range subsets(len(m), k) {
			for cols := range subsets(columns, k) {
				part := make(matrix, k)
				for i, r := range rows {
					for _, c := range cols {
						part[i] = append(part[i], m[r][c])
					}
				}
				_, det := rational(bigOf(part))
				g.GCD(nil, nil, g, det.Abs(det))
			}
		}
		list = append(list, g)
	}
	return list
}

// subsets yields all lists of k ascending numbers below n.
func subsets(n, k int) func(func([]int) bool) {
	return func(yield func([]int) bool) {
		for x := range box(k, 0, n-1) {
			ascending := true
			for i := 1; i < k; i++ {
				ascending = ascending && x[i-1] < x[i]
			}
			if ascending && !yield(x) {
				return
			}
		}
	}
}

// wantSmith checks the transformations.
func wantSmith(t *testing.T, m matrix) []*big.Int {
	t.Helper()
	d, u, v, e := lattice.Smith(m)
	what := fmt.Sprint("Smith of ", m)
	want(t, what, e, api.OK)
	columns := 0
	if len(m) > 0 {
		columns = len(m[0])
	}
	want(t, what+": length", len(d), min(len(m), columns))
	factors := append(bigInts(t, [][]api.Int{d}), nil)[0]
	left, right := bigInts(t, u), bigInts(t, v)
	wantUnimodular(t, what+": left", left, len(m))
	wantUnimodular(t, what+": right", right, columns)
	form := bigTimes(bigTimes(left, bigOf(m), columns), right, columns)
	for i, row := range form {
		for j, x := range row {
			wanted := new(big.Int)
			if i == j {
				wanted = factors[i]
			}
			if x.Cmp(wanted) != 0 || x.Sign() < 0 {
				t.Fatalf("%s: %v at %d, %d, want %v", what, x, i, j, wanted)
			}
		}
	}
	for i := 1; i < len(factors); i++ {
		zero := factors[i-1].Sign() == 0
		if zero && factors[i].Sign() != 0 || !zero && new(big.Int).Mod(factors[i], factors[i-1]).Sign() != 0 {
			t.Errorf("%s: %v does not divide %v", what, factors[i-1], factors[i])
		}
	}
	return factors
}

func TestSmith(t *testing.T) {
	for _, x := range []struct {
		m    matrix
		want []int
	}{
		{matrix{{2, 4}, {6, 8}}, []int{2, 4}}, {nil, nil}, {matrix{{}, {}, {}}, nil}, {matrix{{0}}, []int{0}}, {matrix{{-5}}, []int{5}}, {diagonal(0, -3), []int{3, 0}}, {diagonal(4, 6), []int{2, 12}},
		{diagonal(0, 0, 4, 0, 6), []int{2, 12, 0, 0, 0}}, {matrix{{2, 3}}, []int{1}}, {matrix{{2}, {4}}, []int{2}}, {matrix{{0, 0}, {0, 0}, {0, 7}}, []int{7, 0}}, {filled(3, 4, limit), []int{limit, 0, 0}}, {diagonal(6, 10, 15), []int{1, 30, 30}}, {diagonal(8, 4, 2), []int{2, 4, 8}},
	} {
		wantResult(t, fmt.Sprint("Smith of ", x.m), wantSmith(t, x.m), api.OK, append(bigOf(matrix{x.want}), nil)[0], api.OK)
	}
	n := numbers(6)
	for k := range 300 {
		rows, columns := n.between(1, 4), n.between(1, 4)
		m := n.matrix(rows, columns, []int{1, 4, 12, limit}[k%4])
		if k%3 == 0 {
			m = times(n.matrix(rows, 2, 4), n.matrix(2, columns, 6))
		}
		product := big.NewInt(1)
		for i, x := range wantSmith(t, m) {
			product.Mul(product, x)
			want(t, fmt.Sprint("the divisor of minors of ", m), product.Cmp(minors(m, columns)[i]), 0)
		}
	}
}

func TestLargeSmithForms(t *testing.T) {
	n := numbers(7)
	for _, m := range []matrix{n.matrix(12, 12, limit), n.matrix(20, 9, limit), n.matrix(9, 20, limit), n.matrix(64, 64, 2), times(n.matrix(30, 4, 5), n.matrix(4, 30, 5)), diagonal(2, 3, 5, 7, 11, 13, 17, 19, 23, 29)} {
		wantSmith(t, m)
	}
	d, _, _, e := lattice.Smith(diagonal(limit, limit-1, limit-3))
	want(t, "Smith with a large factor", e, api.OK)
	wanted, _ := new(big.Int).SetString("999999999999996000000000000003000000000000000", 10)
	want(t, "the large factor", toBig(d[2]).Cmp(wanted), 0)
}

func TestKernel(t *testing.T) {
	for _, x := range []struct{ m, want matrix }{
		{matrix{{1}, {2}, {3}}, matrix{{1, 1, -1}, {0, 3, -2}}}, {nil, nil}, {matrix{{}, {}}, unit(2)}, {filled(64, 0, 0), unit(64)}, {filled(3, 2, 0), unit(3)}, {unit(4), nil}, {matrix{{2}, {-4}}, matrix{{2, 1}}}, {matrix{{0}, {5}}, matrix{{1, 0}}},
		{matrix{{limit}, {limit - 1}}, matrix{{limit - 1, -limit}}},
	} {
		k, e := lattice.Kernel(x.m)
		wantResult(t, fmt.Sprint("Kernel of ", x.m), k, e, x.want, api.OK)
	}
	n := numbers(8)
	for range 200 {
		rows := n.between(1, 4)
		m := times(n.matrix(rows, 2, 2), n.matrix(2, n.between(1, 3), 3))
		wantKernel(t, m)
	}
	for _, m := range []matrix{n.matrix(8, 7, 9), n.matrix(30, 2, 3), n.matrix(64, 3, 100), times(n.matrix(64, 2, 30), n.matrix(2, 64, 30))} {
		k, e := lattice.Kernel(m)
		want(t, "Kernel of a large matrix", e, api.OK)
		rank, _ := lattice.Rank(m)
		want(t, "its rows", len(k), len(m)-rank)
		want(t, "it is a Hermite form", isHermite(k), true)
		if !same(times(k, m), filled(len(k), len(m[0]), 0)) {
			t.Errorf("Kernel of %v: %v", m, k)
		}
		d, _, _, _ := lattice.Smith(k) // no more than a part of the kernel, if a factor were not 1
		for _, x := range d {
			want(t, "a factor of the kernel", toBig(x).Int64(), 1)
		}
	}
	wantError(t, "a large Kernel", api.ErrLarge, all(lattice.Kernel(n.matrix(6, 5, limit)))...)
	wantError(t, "a large Kernel", api.ErrLarge, all(lattice.Kernel(matrix{{limit, 1}, {1, limit}, {3, 7}}))...)
}

// wantKernel looks at all short rows.
func wantKernel(t *testing.T, m matrix) {
	t.Helper()
	k, e := lattice.Kernel(m)
	want(t, "Kernel", e, api.OK)
	want(t, fmt.Sprint("the Kernel of ", m, " is a Hermite form"), isHermite(k), true)
	span := api.Lattice{Dim: len(m), Rows: k, Den: 1}
	for x := range box(len(m), -4, 4) {
		in, e := lattice.Contains(span, api.Vector{Coords: x, Den: 1})
		wantResult(t, fmt.Sprint(x, " in the Kernel of ", m), in, e, same(times(matrix{x}, m), filled(1, len(m[0]), 0)), api.OK)
	}
}
