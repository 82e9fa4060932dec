package rotation_test

import (
	"fmt"
	"math/big"
	"testing"

	"fourfold/api"
	"fourfold/lattice"
	"fourfold/rotation"
)

// The tests of this file are those of P7.8.

// inCubic reports whether a vector is in the cubic lattice of a kind, by the definition.
func inCubic(kind int, v [3]*big.Rat) bool {
	var n [3]int
	for i, a := range v {
		twice := new(big.Rat).Add(a, a)
		if !twice.IsInt() {
			return false
		}
		n[i] = int(twice.Num().Int64())
	}
	odd := func(n int) bool { return n%2 != 0 }
	switch kind {
	case 0:
		return !odd(n[0]) && !odd(n[1]) && !odd(n[2])
	case 1:
		return odd(n[0]) == odd(n[1]) && odd(n[1]) == odd(n[2])
	}
	return !odd(n[0] + n[1] + n[2])
}

// cubic is the cubic lattice of a kind.
func cubic(kind int) api.Lattice {
	return []api.Lattice{
		{Dim: 3, Rows: [][]int{{1, 0, 0}, {0, 1, 0}, {0, 0, 1}}, Den: 1},
		{Dim: 3, Rows: [][]int{{2, 0, 0}, {0, 2, 0}, {0, 0, 2}, {1, 1, 1}}, Den: 2},
		{Dim: 3, Rows: [][]int{{1, 1, 0}, {1, -1, 0}, {0, 1, 1}}, Den: 2},
	}[kind]
}

// vector is the vector of the numbers divided by den.
func vector(den int, n ...int) [3]*big.Rat {
	var v [3]*big.Rat
	for i := range v {
		v[i] = big.NewRat(int64(n[i]), int64(den))
	}
	return v
}

func TestCoincidence(t *testing.T) {
	for _, x := range []struct {
		kind  int
		q     api.Quat
		want  api.Lattice
		index int
	}{
		{0, whole(2, 1, 0, 0), api.Lattice{Dim: 3, Rows: [][]int{{1, 0, 0}, {0, 1, 3}, {0, 0, 5}}, Den: 1}, 5},
		{0, whole(1, 0, 0, 0), api.Lattice{Dim: 3, Rows: [][]int{{1, 0, 0}, {0, 1, 0}, {0, 0, 1}}, Den: 1}, 1},
		{1, whole(0, 3, 0, 0), api.Lattice{Dim: 3, Rows: [][]int{{1, 1, 1}, {0, 2, 0}, {0, 0, 2}}, Den: 2}, 1},
		{2, half(1, 1, 1, 1), api.Lattice{Dim: 3, Rows: [][]int{{1, 0, 1}, {0, 1, 1}, {0, 0, 2}}, Den: 2}, 1},
	} {
		l, index, e := rotation.Coincidence(x.kind, x.q)
		wantResult(t, fmt.Sprint("Coincidence of ", x.q), l, e, x.want, api.OK)
		want(t, "the index", index, x.index)
	}
}

func TestCoincidenceByItsDefinition(t *testing.T) {
	n := numbers(60)
	for range 60 {
		x := n.some(one(&n, 1, 2))
		for kind := range 3 {
			what := fmt.Sprint("Coincidence of ", kind, " and ", x)
			l, index, e := rotation.Coincidence(kind, x)
			want(t, what, e, api.OK)
			normal, e := lattice.Normal(l)
			wantResult(t, what+", normal", l, e, normal, api.OK)
			ratio, e := lattice.Index(cubic(kind), l)
			wantResult(t, what+", the index", ratio, e, api.Frac{Num: index, Den: 1}, api.OK)
			back := over(x.Den, x.W, -x.X, -x.Y, -x.Z)
			side := min(2*index, 14)
			for range 80 {
				v := []int{n.between(0, side), n.between(0, side), n.between(0, side)}
				in := made[bool](t)(lattice.Contains(l, api.Vector{Coords: v, Den: 2}))
				wanted := inCubic(kind, vector(2, v...)) && inCubic(kind, turned(back, vector(2, v...)))
				want(t, fmt.Sprint(what, ": ", v, "/2"), in, wanted)
			}
			for _, row := range l.Rows {
				v := vector(l.Den, row...)
				want(t, fmt.Sprint(what, ": ", row), inCubic(kind, v) && inCubic(kind, turned(back, v)), true)
			}
		}
	}
}

func TestErrorsOfCoincidence(t *testing.T) {
	for _, kind := range []int{-1, 3, 4, least, greatest} {
		wantError(t, fmt.Sprint("kind ", kind), api.ErrRange, all(rotation.Coincidence(kind, whole(1, 0, 0, 0)))...)
		wantError(t, fmt.Sprint("kind ", kind), api.ErrRange, all(rotation.Coincidence(kind, sumOfSquares(1001)))...)
	}
	seen := map[int]bool{}
	for _, size := range []int{999, 2 * 999, 997, 1001, 2 * 1001, 4 * 1001, 3 * 999, 999983} {
		q := sumOfSquares(size)
		den := matrix(q).Den
		seen[den] = true
		for kind := range 3 {
			l, index, e := rotation.Coincidence(kind, q)
			if den > param {
				wantError(t, fmt.Sprint("Coincidence of ", q), api.ErrLarge, l, index, e)
			} else {
				want(t, fmt.Sprint("Coincidence of ", q), e, api.OK)
				want(t, "the index", index, den)
			}
		}
	}
	want(t, "the denominators 999 and 1001", seen[999] && seen[1001], true)
	l, index, e := rotation.Coincidence(0, whole(31, 3, 3, 3))
	want(t, "the index of a norm that 4 divides", index, 247)
	wantResult(t, "its lattice", len(l.Rows), e, 3, api.OK)
	wantError(t, "a large element", api.ErrLarge, all(rotation.Coincidence(0, whole(coord, coord, coord-1, coord)))...)
	l, index, e = rotation.Coincidence(0, whole(0, coord, 0, 0))
	wantResult(t, "a half turn", l, e, cubic(0), api.OK)
	want(t, "its index", index, 1)
}
