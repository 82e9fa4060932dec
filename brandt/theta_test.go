package brandt_test

import (
	"fmt"
	"math/big"
	"testing"

	"fourfold/algebra"
	"fourfold/api"
	"fourfold/brandt"
	"fourfold/ideal"
	"fourfold/lattice"
)

// The tests of this file are those of P8.1.

// norm is the norm of the element with these numerators.
func norm(a api.Algebra, n [4]int) int {
	return n[0]*n[0] - a.A*n[1]*n[1] - a.B*n[2]*n[2] + a.A*a.B*n[3]*n[3]
}

// slowNorms counts the elements of a lattice whose norm is at most most / Den^2, by that norm, times Den^2: by trying all numerators.
func slowNorms(t *testing.T, a api.Algebra, l api.Lattice, most int) map[int]int {
	t.Helper()
	reach := func(by int) int {
		r := 0
		for by*r*r <= most {
			r++
		}
		return r
	}
	count := map[int]int{}
	ends := [4]int{reach(1), reach(-a.A), reach(-a.B), reach(a.A * a.B)}
	for w := -ends[0]; w <= ends[0]; w++ {
		for x := -ends[1]; x <= ends[1]; x++ {
			for y := -ends[2]; y <= ends[2]; y++ {
				for z := -ends[3]; z <= ends[3]; z++ {
					n := norm(a, [4]int{w, x, y, z})
					if n > most {
						continue
					}
					if made[bool](t)(lattice.Contains(l, api.Vector{Coords: []int{w, x, y, z}, Den: l.Den})) {
						count[n]++
					}
				}
			}
		}
	}
	return count
}

// wantSlowTheta compares the theta series with the numbers of all elements.
func wantSlowTheta(t *testing.T, a api.Algebra, l api.Lattice, n int) {
	t.Helper()
	g := 0
	for i, r := range l.Rows {
		for _, s := range l.Rows[:i+1] {
			sum := [4]int{}
			for c := range sum {
				sum[c] = r[c] + s[c]
			}
			g = common(g, norm(a, sum))
		}
		g = common(g, norm(a, [4]int(r)))
	}
	norms := slowNorms(t, a, l, g*n)
	var wanted []int
	for k := range n + 1 {
		wanted = append(wanted, norms[k*g])
	}
	theta, e := brandt.Theta(a, l, n)
	wantResult(t, fmt.Sprint("Theta ", a, l, n), theta, e, wanted, api.OK)
}

func TestThetaOfAllElements(t *testing.T) {
	wantSlowTheta(t, hamilton, hurwitz, 6)
	wantSlowTheta(t, hamilton, lipschitz, 20)
	wantSlowTheta(t, eleven, lipschitz, 30)
	n := numbers(80)
	for range 40 {
		a := api.Algebra{A: -n.between(1, 7), B: -n.between(1, 7)}
		l := api.Lattice{Dim: 4, Den: n.between(1, 5)}
		for range 4 {
			l.Rows = append(l.Rows, []int{n.between(-3, 3), n.between(-3, 3), n.between(-3, 3), n.between(-3, 3)})
		}
		if rank, _ := lattice.Rank(l.Rows); rank == 4 {
			wantSlowTheta(t, a, l, n.between(0, 12))
		}
	}
}

// sumOf is the sum of the divisors of n that a function accepts.
func sumOf(n int, accepted func(d int) bool) int {
	total := 0
	for d := 1; d <= n; d++ {
		if n%d == 0 && accepted(d) {
			total += d
		}
	}
	return total
}

func TestThetaByFormulas(t *testing.T) {
	for _, most := range []int{0, 1, 2, 199, api.MaxTheta} {
		first, second := []int{1}, []int{1}
		for k := 1; k <= most; k++ {
			first = append(first, 24*sumOf(k, func(d int) bool { return d%2 == 1 }))
			second = append(second, 8*sumOf(k, func(d int) bool { return d%4 != 0 }))
		}
		theta, e := brandt.Theta(hamilton, hurwitz, most)
		wantResult(t, fmt.Sprint("Theta of Hurwitz up to ", most), theta, e, first, api.OK)
		theta, e = brandt.Theta(hamilton, lipschitz, most)
		wantResult(t, fmt.Sprint("Theta of Lipschitz up to ", most), theta, e, second, api.OK)
	}
	theta, e := brandt.Theta(hamilton, hurwitz, 4)
	wantResult(t, "Theta of Hurwitz", theta, e, []int{1, 24, 24, 96, 24}, api.OK)
}

func TestThetaOfAnySize(t *testing.T) {
	n := numbers(81)
	for range 60 {
		a := one(&n, hamilton, eleven, thirty, api.Algebra{A: -1000, B: -1000}, api.Algebra{A: -997, B: -3})
		most := one(&n, 1, 5, 300, coord)
		l := api.Lattice{Dim: 4, Den: n.between(1, most)}
		for i := range 4 {
			row := make([]int, 4)
			row[i] = n.between(1, most)
			for j := i + 1; j < 4; j++ {
				row[j] = n.between(0, most)
			}
			l.Rows = append(l.Rows, row)
		}
		if normal, e := lattice.Normal(l); e != api.OK || normal.Rows[3][3] > coord || normal.Rows[2][2] > coord || normal.Rows[1][1] > coord || normal.Rows[0][0] > coord {
			continue
		}
		theta := made[[]int](t)(brandt.Theta(a, l, api.MaxTheta))
		want(t, "the length of a theta series", len(theta), api.MaxTheta+1)
		size, e := ideal.Norm(a, l)
		if e != api.OK {
			continue
		}
		for _, k := range []int{0, 1, 2, 3, 10, 77, 144, 200} {
			multiple := new(big.Rat).Mul(rat(k, 1), rat(size.Num, size.Den))
			list, e := ideal.Elements(a, l, frac(multiple))
			if e == api.OK {
				want(t, fmt.Sprint("coefficient ", k, " of Theta ", a, l), theta[k], len(list))
			}
		}
		x := api.Quat{W: n.between(1, 5), X: n.between(-5, 5), Y: n.between(-5, 5), Z: n.between(-5, 5), Den: n.between(1, 3)}
		if moved, e := ideal.Times(a, x, l); e == api.OK {
			again, e := brandt.Theta(a, moved, api.MaxTheta)
			wantResult(t, fmt.Sprint("Theta of x l ", a, l), again, e, theta, api.OK)
		}
	}
	// The shortest elements are far too long, but for 0, though the norm of the lattice is 1 / 10^12.
	great := of(coord, [4]int{999983, 0, 0, 1}, [4]int{0, 999979, 0, 1}, [4]int{0, 0, 999961, 1}, [4]int{0, 0, 0, 999959})
	theta := made[[]int](t)(brandt.Theta(hamilton, great, api.MaxTheta))
	for k, count := range theta {
		want(t, fmt.Sprint("coefficient ", k), count == 0, k > 0)
	}
}

func TestErrorsOfTheta(t *testing.T) {
	flat := of(1, [4]int{1, 0, 0, 0}, [4]int{0, 1, 0, 0}, [4]int{1, 1, 0, 0}, [4]int{0, 0, 0, 1})
	for _, x := range []struct {
		a api.Algebra
		l api.Lattice
		n int
		e api.Errno
	}{
		{api.Algebra{A: 0, B: -1}, api.Lattice{}, -1, api.ErrZero}, {api.Algebra{A: -1001, B: -1}, api.Lattice{}, -1, algebra.Check(api.Algebra{A: -1001, B: -1})},
		{six, api.Lattice{}, -1, api.ErrDefinite}, {matrices, hurwitz, 3, api.ErrDefinite}, {api.Algebra{A: -1, B: 1}, hurwitz, 3, api.ErrDefinite}, {api.Algebra{A: 1, B: -1}, hurwitz, 3, api.ErrDefinite},
		{hamilton, api.Lattice{}, -1, api.ErrRange}, {hamilton, api.Lattice{Dim: 4, Rows: [][]int{{1}}, Den: 1}, -1, api.ErrShape}, {hamilton, flat, -1, api.ErrShape}, {hamilton, api.Lattice{Dim: 2, Rows: [][]int{{1, 0}, {0, 1}}, Den: 1}, -1, api.ErrShape}, {hamilton, of(coord+1, [4]int{1}, [4]int{0, 1}, [4]int{0, 0, 1}, [4]int{0, 0, 0, 1}), -1, api.ErrLarge},
		{hamilton, hurwitz, -1, api.ErrRange}, {hamilton, hurwitz, api.MaxTheta + 1, api.ErrRange}, {hamilton, hurwitz, least, api.ErrRange}, {hamilton, hurwitz, greatest, api.ErrRange}, {hamilton, hurwitz, 0, api.OK}, {hamilton, hurwitz, api.MaxTheta, api.OK},
	} {
		theta, e := brandt.Theta(x.a, x.l, x.n)
		what := fmt.Sprint("Theta ", x.a, x.l, x.n)
		if x.e == api.OK {
			want(t, what, e, api.OK)
			want(t, what, len(theta), x.n+1)
			continue
		}
		wantError(t, what, x.e, theta, e)
	}
}
