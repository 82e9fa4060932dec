package lattice_test

import (
	"cmp"
	"fmt"
	"slices"
	"testing"

	"fourfold/api"
	"fourfold/lattice"
)

// The tests of this file are those of P2.11.

// slowVectors looks at all vectors with numbers of a size up to reach.
func slowVectors(g matrix, bound, reach int) matrix {
	var list matrix
	value := func(v []int) int { return times(times(matrix{v}, g), turned(matrix{v}))[0][0] }
	for v := range box(len(g), -reach, reach) {
		first := slices.IndexFunc(v, func(n int) bool { return n != 0 })
		if first >= 0 && v[first] > 0 && value(v) <= bound {
			list = append(list, v)
		}
	}
	slices.SortFunc(list, func(a, b []int) int { return cmp.Or(cmp.Compare(value(a), value(b)), slices.Compare(a, b)) })
	return list
}

func TestVectors(t *testing.T) {
	for _, x := range []struct {
		g     matrix
		bound int
		want  matrix
	}{
		{matrix{{2, 1}, {1, 2}}, 2, matrix{{0, 1}, {1, -1}, {1, 0}}}, {matrix{{2, 1}, {1, 2}}, 1, nil}, {matrix{{2, 1}, {1, 2}}, 0, nil}, {unit(4), 0, nil}, {matrix{{5}}, 45, matrix{{1}, {2}, {3}}}, {matrix{{5}}, 44, matrix{{1}, {2}}},
		{matrix{{2, 3}, {3, 6}}, 2, matrix{{1, -1}, {1, 0}, {2, -1}}}, {matrix{{1, 999}, {999, 998002}}, 1, matrix{{1, 0}, {999, -1}}}, {diagonal(mostGram, mostGram), 1000000000, nil},
	} {
		v, e := lattice.Vectors(x.g, x.bound)
		if x.want == nil && x.bound > 9 {
			want(t, "the number of Vectors", len(v), len(slowVectors(x.g, x.bound, 32)))
			continue
		}
		wantResult(t, fmt.Sprint("Vectors of ", x.g, " up to ", x.bound), v, e, x.want, api.OK)
	}
	n := numbers(23)
	for range 150 {
		g := n.gram(n.between(1, 4), 3)
		for i := range g { // then a value is at least the sum of squares, and shows the size of numbers
			g[i][i]++
		}
		bound := n.between(0, 36)
		v, e := lattice.Vectors(g, bound)
		wantResult(t, fmt.Sprint("Vectors of ", g, " up to ", bound), v, e, slowVectors(g, bound, 6), api.OK)
	}
}

// A unimodular matrix takes short vectors to short vectors, also to such with large numbers.
func TestVectorsOfTurnedForms(t *testing.T) {
	n := numbers(24)
	for range 200 {
		size := n.between(2, 4)
		g := n.gram(size, 3)
		u := n.unimodular(size, 16)
		turn := times(times(u, g), turned(u))
		if lattice.CheckGram(turn) != api.OK {
			continue
		}
		bound := n.between(0, 60)
		before, e := lattice.Vectors(g, bound)
		want(t, "Vectors", e, api.OK)
		after, e := lattice.Vectors(turn, bound)
		want(t, "Vectors", e, api.OK)
		var back matrix
		for _, v := range after {
			w := times(matrix{v}, u)[0]
			if first := slices.IndexFunc(w, func(n int) bool { return n != 0 }); w[first] < 0 {
				for i := range w {
					w[i] = -w[i]
				}
			}
			back = append(back, w)
		}
		value := func(v []int) int { n, _ := lattice.Value(g, v); return n }
		byValue := func(a, b []int) int { return cmp.Or(cmp.Compare(value(a), value(b)), slices.Compare(a, b)) }
		want(t, "the turned vectors are in their order", slices.IsSortedFunc(back, func(a, b []int) int { return cmp.Compare(value(a), value(b)) }), true)
		slices.SortFunc(back, byValue)
		wantResult(t, fmt.Sprint("Vectors of ", turn), back, api.OK, before, api.OK)
	}
}

func TestErrorsOfVectors(t *testing.T) {
	for _, bound := range []int{-1, least, 1000000001, greatest} {
		wantError(t, fmt.Sprint("Vectors up to ", bound), api.ErrRange, all(lattice.Vectors(unit(2), bound))...)
	}
	for _, bound := range []int{-1, least, 1001, greatest} {
		wantError(t, fmt.Sprint("Counts up to ", bound), api.ErrRange, all(lattice.Counts(unit(2), bound))...)
	}
	for _, x := range []struct {
		g            matrix
		bound, count int
	}{
		{matrix{{1}}, 25000000, 5000}, {matrix{{1}}, 25010000, 5000}, {matrix{{1}}, 25010001, 0}, {matrix{{1}}, 1000000000, 0}, {matrix{{40}}, 1000000000, 5000}, {matrix{{39}}, 1000000000, 0},
		{unit(4), 1000000000, 0}, {unit(2), 1000000000, 0}, {diagonal(1, 1000000, 1000000, 1000000), 1000000000, 0}, {diagonal(1000000, 1000000, 1000000, 1000000), 1000000000, 0}, {unit(4), 1000, 0},
	} {
		v, e := lattice.Vectors(x.g, x.bound)
		if x.count > 0 {
			wantResult(t, fmt.Sprint("Vectors of ", x.g, " up to ", x.bound), len(v), e, x.count, api.OK)
			continue
		}
		wantError(t, fmt.Sprint("Vectors of ", x.g, " up to ", x.bound), api.ErrLarge, v, e)
	}
	// The limit is one of vectors up to the sign: 4999 below it, and each of two opposite ones.
	exact := 0
	for bound := 1; bound <= 1000; bound++ {
		counts, e := lattice.Counts(diagonal(1, 1, 3, 3), bound)
		v, f := lattice.Vectors(diagonal(1, 1, 3, 3), bound)
		want(t, fmt.Sprint("the error of Counts up to ", bound), e, f)
		if e == api.OK {
			sum := 0
			for _, n := range counts {
				sum += n
			}
			want(t, fmt.Sprint("all Counts up to ", bound), sum, 2*len(v)+1)
			exact = max(exact, len(v))
			continue
		}
		wantError(t, "Counts beyond the limit", api.ErrLarge, counts, e)
	}
	if exact <= 4500 || exact > 5000 {
		t.Errorf("%d vectors before the limit", exact)
	}
}

func TestMinimum(t *testing.T) {
	for _, x := range []struct {
		g       matrix
		least   int
		vectors matrix
	}{
		{matrix{{7}}, 7, matrix{{1}}}, {matrix{{mostGram}}, mostGram, matrix{{1}}}, {matrix{{2, 1}, {1, 2}}, 2, matrix{{0, 1}, {1, -1}, {1, 0}}}, {diagonal(3, 2, 2), 2, matrix{{0, 0, 1}, {0, 1, 0}}},
		{matrix{{1, 999}, {999, mostGram}}, 1, matrix{{1, 0}}}, {matrix{{2, 0, 0, 1}, {0, 2, 0, 1}, {0, 0, 2, 1}, {1, 1, 1, 2}}, 2, slowVectors(matrix{{2, 0, 0, 1}, {0, 2, 0, 1}, {0, 0, 2, 1}, {1, 1, 1, 2}}, 2, 3)},
	} {
		n, v, e := lattice.Minimum(x.g)
		wantResult(t, fmt.Sprint("Minimum of ", x.g), n, e, x.least, api.OK)
		wantResult(t, "its vectors", v, e, x.vectors, api.OK)
	}
	n := numbers(25)
	for range 300 {
		g := n.gram(n.between(1, 4), 3)
		for i := range g { // then a value is at least the sum of squares
			g[i][i]++
		}
		u := n.unimodular(len(g), 12)
		turn := times(times(u, g), turned(u))
		if lattice.CheckGram(turn) != api.OK {
			continue
		}
		vectors := slowVectors(g, 27, 5)
		if len(vectors) == 0 {
			continue
		}
		value, e := lattice.Value(g, vectors[0])
		want(t, "Value", e, api.OK)
		least, list, e := lattice.Minimum(turn)
		wantResult(t, fmt.Sprint("Minimum of ", turn), least, e, value, api.OK)
		short, e := lattice.Vectors(turn, value)
		wantResult(t, "its vectors", list, api.OK, short, e)
		want(t, "how many they are", len(list), len(slowVectors(g, value, 5)))
	}
}

func TestCounts(t *testing.T) {
	for _, x := range []struct {
		g     matrix
		bound int
		want  []int
	}{
		{unit(2), 5, []int{1, 4, 4, 0, 4, 8}}, {unit(2), 0, []int{1}}, {matrix{{mostGram}}, 3, []int{1, 0, 0, 0}}, {unit(4), 4, []int{1, 8, 24, 32, 24}}, {matrix{{2, 1}, {1, 2}}, 8, []int{1, 0, 6, 0, 0, 0, 6, 0, 6}}, {matrix{{1}}, 1000, squares(1000)},
	} {
		c, e := lattice.Counts(x.g, x.bound)
		wantResult(t, fmt.Sprint("Counts of ", x.g, " up to ", x.bound), c, e, x.want, api.OK)
	}
	n := numbers(26)
	for range 100 {
		g := n.gram(n.between(1, 4), 4)
		bound := n.between(0, 80)
		c, e := lattice.Counts(g, bound)
		want(t, "Counts", e, api.OK)
		v, _ := lattice.Vectors(g, bound)
		wanted := make([]int, bound+1)
		wanted[0] = 1
		for _, x := range v {
			value, _ := lattice.Value(g, x)
			wanted[value] += 2
		}
		wantResult(t, fmt.Sprint("Counts of ", g), c, e, wanted, api.OK)
	}
}

// squares are the counts of the form x^2.
func squares(bound int) []int {
	list := make([]int, bound+1)
	list[0] = 1
	for x := 1; x*x <= bound; x++ {
		list[x*x] = 2
	}
	return list
}
