package quadratic_test

import (
	"fmt"
	"math/big"
	"slices"
	"testing"

	"fourfold/api"
	"fourfold/quadratic"
)

// The tests of this file are those of P6.3.

// independent reports whether no vector of a list is a combination of the other ones: whether the determinant of their products, as those of vectors in Euclid's space, is not 0.
func independent(list [][]int) bool {
	return det(times(list, turned(list))).Sign() != 0
}

// minima are the minima, by their definition, from all vectors of the values that may matter.
func minima(f api.Form, all [][]int) []int {
	sorted := slices.Clone(all)
	slices.SortStableFunc(sorted, func(x, y []int) int { return value(f, x) - value(f, y) })
	var list [][]int
	var values []int
	for _, x := range sorted {
		if longer := append(slices.Clone(list), x); independent(longer) {
			list = longer
			values = append(values, value(f, x))
		}
	}
	return values
}

// longest is the greatest value of the vectors of the basis.
func longest(f api.Form) int {
	v := 0
	for i, row := range f.Gram {
		v = max(v, row[i]/2)
	}
	return v
}

// wantReduction checks a reduction.
func wantReduction(t *testing.T, f api.Form, minima []int) {
	t.Helper()
	r, m, e := quadratic.Reduce(f)
	want(t, fmt.Sprint("Reduce ", f), e, api.OK)
	want(t, "variables of the reduction", r.N, f.N)
	if !same(taken(f, m), r) || det(m).CmpAbs(big.NewInt(1)) != 0 {
		t.Errorf("Reduce %v: %v does not take it to %v", f, m, r)
	}
	for i, v := range minima {
		want(t, fmt.Sprint("the diagonal of the reduction of ", f), r.Gram[i][i], 2*v)
	}
}

// smallDet is the determinant of a matrix with small numbers.
func smallDet(m matrix) int {
	if len(m) == 1 {
		return m[0][0]
	}
	sum, sign := 0, 1
	for j, x := range m[0] {
		var rest matrix
		for _, row := range m[1:] {
			rest = append(rest, slices.Concat(row[:j], row[j+1:]))
		}
		sum += sign * x * smallDet(rest)
		sign = -sign
	}
	return sum
}

// label is the label by its definition, from all vectors up to the last minimum.
func label(f api.Form, all [][]int, minima []int) api.Form {
	var best api.Form
	var choose func(rows matrix)
	choose = func(rows matrix) {
		if len(rows) == f.N {
			g := taken(f, rows)
			if best.N > 0 && slices.CompareFunc(g.Gram, best.Gram, slices.Compare) >= 0 {
				return
			}
			if d := smallDet(rows); d == 1 || d == -1 {
				best = g
			}
			return
		}
		for _, x := range all {
			if value(f, x) == minima[len(rows)] {
				choose(append(rows[:len(rows):len(rows)], x))
			}
		}
	}
	choose(nil)
	return best
}

// bases is the number of the lists that label goes through.
func bases(f api.Form, all [][]int, minima []int) int {
	product := 1
	for _, v := range minima {
		count := 0
		for _, x := range all {
			if value(f, x) == v {
				count++
			}
		}
		product *= count
	}
	return product
}

func TestReductions(t *testing.T) {
	const largest = 4000
	n := numbers(20)
	sizes, labels := map[int]int{}, map[int]int{}
	for range 500 {
		f := n.any()
		list := vectors(f, longest(f))
		if list == nil {
			continue
		}
		wanted := minima(f, list)
		sizes[f.N]++
		got, e := quadratic.Minima(f)
		wantResult(t, fmt.Sprint("Minima ", f), got, e, wanted, api.OK)
		wantReduction(t, f, wanted)
		if bases(f, list, wanted) > largest {
			continue
		}
		labels[f.N]++
		l, e := quadratic.Label(f)
		wantResult(t, fmt.Sprint("Label ", f), l, e, label(f, list, wanted), api.OK)
	}
	for size := 2; size <= 4; size++ {
		if sizes[size] < 50 || labels[size] < 50 {
			t.Error("forms:", sizes, "labels:", labels)
		}
	}
}

func TestLabelsOfKnownForms(t *testing.T) {
	n := numbers(21)
	for _, k := range known() {
		list := vectors(k.form, longest(k.form))
		wanted := label(k.form, list, minima(k.form, list))
		for range 10 {
			f, _ := n.hidden(k.form, n.between(0, 40))
			l, e := quadratic.Label(f)
			wantResult(t, fmt.Sprint("Label ", f), l, e, wanted, api.OK)
			got, e := quadratic.Minima(f)
			wantResult(t, fmt.Sprint("Minima ", f), got, e, minima(k.form, list), api.OK)
			wantReduction(t, f, minima(k.form, list))
		}
	}
}

// Forms with great minima, and with great and small ones.
func TestReductionsOfOrthogonalForms(t *testing.T) {
	n := numbers(22)
	for range 100 {
		var list []int
		for range n.between(2, 4) {
			list = append(list, one(&n, 1, 2, 7, 40, 40, 250, 499, 500, n.between(1, 500)))
		}
		f := diagonal(list...)
		slices.Sort(list)
		if f.N == 4 && list[3] > 100 && list[1] < 10 { // there may be too many vectors
			continue
		}
		f, _ = n.hidden(f, 10)
		got, e := quadratic.Minima(f)
		wantResult(t, fmt.Sprint("Minima ", f), got, e, list, api.OK)
		wantReduction(t, f, list)
		// A vector with a minimum as its value that is no combination of those with lesser ones has one number, 1 or -1, alone.
		l, e := quadratic.Label(f)
		wantResult(t, fmt.Sprint("Label ", f), l, e, diagonal(list...), api.OK)
	}
}

func TestEndsOfTheLimitOfMinima(t *testing.T) {
	short := of([]int{4, -1, -1}, []int{-1, 4, -1}, []int{-1, -1, 8})
	long := of([]int{2, -1, 0}, []int{-1, 4, -1}, []int{0, -1, 4})
	n := numbers(23)
	for _, x := range []struct {
		f     api.Form
		value int
		count int
	}{{beside(short, diagonal(426)), 426, 5000}, {beside(long, diagonal(265)), 265, 5001}, {diagonal(1, 1, 1, 500), 500, 0}} {
		sum := x.count
		if x.value <= api.MaxValue {
			sum = 0
			for _, count := range made[[]int](t)(quadratic.Theta(x.f, x.value))[1:] {
				sum += count / 2
			}
			want(t, "vectors", sum, x.count)
		}
		f, _ := n.hidden(x.f, 8)
		if x.count == many {
			wantReduction(t, f, append(minima(short, vectors(short, 4)), x.value))
			_, e := quadratic.Minima(f)
			want(t, "Minima", e, api.OK)
			_, e = quadratic.Label(f)
			want(t, "Label", e, api.OK)
			continue
		}
		wantError(t, fmt.Sprint("Minima ", f), api.ErrLarge, all(quadratic.Minima(f))...)
		wantError(t, fmt.Sprint("Reduce ", f), api.ErrLarge, all(quadratic.Reduce(f))...)
		wantError(t, fmt.Sprint("Label ", f), api.ErrLarge, all(quadratic.Label(f))...)
	}
}

func TestExamplesOfReduction(t *testing.T) {
	f := of([]int{6, 3}, []int{3, 2})
	list, e := quadratic.Minima(f)
	wantResult(t, "Minima", list, e, []int{1, 1}, api.OK)
	for _, x := range [][2]api.Form{
		{hexagonal(), of([]int{2, -1}, []int{-1, 2})}, {f, of([]int{2, -1}, []int{-1, 2})}, {diagonal(1, 1), diagonal(1, 1)}, {diagonal(7, 3), diagonal(3, 7)}, {of([]int{4, 1}, []int{1, 2}), of([]int{2, -1}, []int{-1, 4})}, {fourSquares(), fourSquares()},
		{rootsA3(), of([]int{2, -1, -1}, []int{-1, 2, 0}, []int{-1, 0, 2})}, {rootsD4(), of([]int{2, -1, -1, -1}, []int{-1, 2, 0, 0}, []int{-1, 0, 2, 0}, []int{-1, 0, 0, 2})}, {diagonal(500, 500), diagonal(500, 500)},
	} {
		l, e := quadratic.Label(x[0])
		wantResult(t, fmt.Sprint("Label ", x[0]), l, e, x[1], api.OK)
	}
}

func TestErrorsOfReduction(t *testing.T) {
	for _, x := range []struct {
		f api.Form
		e api.Errno
	}{{api.Form{}, api.ErrShape}, {diagonal(501, 1), api.ErrLarge}, {diagonal(0, 1), api.ErrForm}} {
		wantError(t, "Minima", x.e, all(quadratic.Minima(x.f))...)
		wantError(t, "Reduce", x.e, all(quadratic.Reduce(x.f))...)
		wantError(t, "Label", x.e, all(quadratic.Label(x.f))...)
	}
}
