package lattice_test

import (
	"fmt"
	"testing"

	"fourfold/api"
	"fourfold/lattice"
)

// The tests of this file are those of P2.9 and P2.10.

const mostGram = api.MaxGram

// badGrams are matrices that are no Gram matrices, with their errors, besides those that are no matrices.
var badGrams = []struct {
	g matrix
	e api.Errno
}{
	{nil, api.ErrShape}, {matrix{nil}, api.ErrShape}, {matrix{{1, 0}}, api.ErrShape}, {matrix{{1}, {0}}, api.ErrShape}, {unit(5), api.ErrShape}, {filled(64, 64, limit), api.ErrShape}, {matrix{{limit, 0}}, api.ErrShape},
	{matrix{{mostGram + 1}}, api.ErrRange}, {matrix{{1, 2}, {3, -mostGram - 1}}, api.ErrRange}, {matrix{{limit}}, api.ErrRange},
	{matrix{{2, 1}, {0, 2}}, api.ErrForm}, {matrix{{0}}, api.ErrForm}, {matrix{{-1}}, api.ErrForm}, {matrix{{0, 1}, {1, 0}}, api.ErrForm}, {matrix{{1, 1}, {1, 1}}, api.ErrForm}, {matrix{{1, 2}, {2, 3}}, api.ErrForm}, {diagonal(1, 1, -1), api.ErrForm}, {diagonal(-1, -1), api.ErrForm}, {diagonal(1, -1, -1), api.ErrForm}, {diagonal(-1, -1, -1, -1), api.ErrForm},
	{diagonal(1, 1, 1, 0), api.ErrForm}, {matrix{{0, 0, 1, 0}, {0, 0, 0, 1}, {1, 0, 0, 0}, {0, 1, 0, 0}}, api.ErrForm}, {matrix{{1, 0, 1}, {0, 1, 0}, {-1, 0, 3}}, api.ErrForm}, {filled(4, 4, mostGram), api.ErrForm},
	{matrix{{mostGram, mostGram - 1, 0, 0}, {mostGram - 1, mostGram, 0, 0}, {0, 0, mostGram - 1, mostGram}, {0, 0, mostGram, mostGram}}, api.ErrForm},
}

func TestCheckGram(t *testing.T) {
	wide := matrix{{mostGram, mostGram - 1, 0, 0}, {mostGram - 1, mostGram, 0, 0}, {0, 0, mostGram - 1, mostGram - 1}, {0, 0, mostGram - 1, mostGram}}
	for _, g := range []matrix{{{1}}, {{mostGram}}, {{2, 1}, {1, 2}}, {{2, 3}, {3, 6}}, unit(4), diagonal(mostGram, mostGram, mostGram, mostGram), wide} {
		want(t, fmt.Sprint("CheckGram of ", g), lattice.CheckGram(g), api.OK)
	}
	for _, x := range badGrams {
		want(t, fmt.Sprint("CheckGram of ", x.g), lattice.CheckGram(x.g), x.e)
	}
	for _, x := range badMatrices {
		want(t, fmt.Sprint("CheckGram of ", x.m), lattice.CheckGram(x.m), x.e)
	}
}

// A symmetric matrix is positive definite just if no short vector says otherwise, for small numbers.
func TestPositiveForms(t *testing.T) {
	for x := range box(3, -3, 3) {
		positive := true
		for v := range box(2, -9, 9) {
			if gcdOf(v...) != 0 && x[0]*v[0]*v[0]+2*x[1]*v[0]*v[1]+x[2]*v[1]*v[1] <= 0 {
				positive = false
			}
		}
		e := lattice.CheckGram(matrix{{x[0], x[1]}, {x[1], x[2]}})
		want(t, fmt.Sprint("CheckGram of the form ", x), e == api.OK, positive)
	}
}

// The error of the Gram matrix comes first.
func TestErrorsOfGramMatrices(t *testing.T) {
	list := badGrams
	for _, x := range badMatrices {
		list = append(list, struct {
			g matrix
			e api.Errno
		}{x.m, x.e})
	}
	for _, x := range list {
		what := fmt.Sprint(" of ", x.g)
		wantError(t, "Value"+what, x.e, all(lattice.Value(x.g, nil))...)
		wantError(t, "IsReduced"+what, x.e, all(lattice.IsReduced(x.g))...)
		wantError(t, "Reduce"+what, x.e, all(lattice.Reduce(x.g))...)
		wantError(t, "CheckReduced"+what, x.e, lattice.CheckReduced(x.g, api.Reduced{}))
		wantError(t, "Vectors"+what, x.e, all(lattice.Vectors(x.g, -1))...)
		wantError(t, "Minimum"+what, x.e, all(lattice.Minimum(x.g))...)
		wantError(t, "Counts"+what, x.e, all(lattice.Counts(x.g, -1))...)
	}
}

func TestValue(t *testing.T) {
	const most = 100000
	wide := diagonal(mostGram, mostGram, mostGram, mostGram)
	for i := range 4 {
		for j := range i {
			wide[i][j], wide[j][i] = mostGram-1, mostGram-1
		}
	}
	for _, x := range []struct {
		g    matrix
		v    []int
		want int
		e    api.Errno
	}{
		{matrix{{2, 1}, {1, 2}}, []int{1, -1}, 2, api.OK}, {matrix{{2, 1}, {1, 2}}, []int{0, 0}, 0, api.OK}, {wide, []int{most, -most, most, most}, 4 * most * most * mostGram, api.OK}, {matrix{{mostGram}}, []int{-most}, most * most * mostGram, api.OK},
		{unit(2), nil, 0, api.ErrShape}, {unit(2), []int{1, 2, most + 1}, 0, api.ErrShape}, {unit(2), []int{most + 1, 0}, 0, api.ErrRange}, {unit(2), []int{0, -most - 1}, 0, api.ErrRange}, {unit(1), []int{least}, 0, api.ErrRange},
	} {
		n, e := lattice.Value(x.g, x.v)
		wantResult(t, fmt.Sprint("Value of ", x.v, " by ", x.g), n, e, x.want, x.e)
	}
	n := numbers(19)
	for range 300 {
		g := n.gram(n.between(1, 4), 9)
		v := n.matrix(1, len(g), most)
		got, e := lattice.Value(g, v[0])
		wantResult(t, fmt.Sprint("Value of ", v, " by ", g), got, e, times(times(v, g), turned(v))[0][0], api.OK)
	}
}

// slowReduced is the definition.
func slowReduced(g matrix) bool {
	for i := range g {
		if i > 0 && g[i][i] < g[i-1][i-1] {
			return false
		}
		for w := range box(i, -1, 1) {
			v := append(w, 1)
			for len(v) < len(g) {
				v = append(v, 0)
			}
			if times(times(matrix{v}, g), turned(matrix{v}))[0][0] < g[i][i] {
				return false
			}
		}
	}
	return true
}

func TestIsReduced(t *testing.T) {
	for _, x := range []struct {
		g    matrix
		want bool
	}{
		{matrix{{2, 1}, {1, 2}}, true}, {matrix{{2, 3}, {3, 6}}, false}, {matrix{{2, -1}, {-1, 2}}, true}, {matrix{{3, 0}, {0, 2}}, false}, {matrix{{7}}, true}, {diagonal(1, 2, 2, 9), true}, {diagonal(1, 2, 1), false},
		{matrix{{2, 1, 1}, {1, 2, -1}, {1, -1, 3}}, false}, {matrix{{2, 1, -1}, {1, 2, 0}, {-1, 0, 2}}, true},
		{matrix{{2, 0, 0, 1}, {0, 2, 0, 1}, {0, 0, 2, 1}, {1, 1, 1, 2}}, true}, {matrix{{3, 0, 0, 1}, {0, 3, 0, 2}, {0, 0, 3, 1}, {1, 2, 1, 4}}, false},
	} {
		r, e := lattice.IsReduced(x.g)
		wantResult(t, fmt.Sprint("IsReduced of ", x.g), r, e, x.want, api.OK)
	}
	n := numbers(20)
	seen := map[bool]int{}
	for k := range 12000 {
		size := n.between(1, 4)
		g := diagonal(n.between(1, 4), n.between(2, 5), n.between(2, 6), n.between(2, 6))[:size]
		for i := range g {
			g[i] = g[i][:size]
			for j := range i {
				g[i][j] = n.between(-2-k%2, 2)
				g[j][i] = g[i][j]
			}
		}
		if lattice.CheckGram(g) == api.OK {
			r, e := lattice.IsReduced(g)
			wantResult(t, fmt.Sprint("IsReduced of ", g), r, e, slowReduced(g), api.OK)
			if size == 4 {
				seen[r]++
			}
		}
	}
	if seen[true] < 40 || seen[false] < 40 {
		t.Errorf("too few forms have been looked at: %v", seen)
	}
}

// hard are Gram matrices whose reductions need large numbers: of lattices that a unimodular matrix has turned.
func hard(n *numbers) matrix {
	for {
		size := n.between(1, 4)
		rows := times(n.unimodular(size, n.between(0, 14)), n.matrix(size, size, 3))
		g := times(rows, turned(rows))
		if lattice.CheckGram(g) == api.OK {
			return g
		}
	}
}

func TestReduce(t *testing.T) {
	n := numbers(21)
	list := []matrix{
		{{mostGram}}, {{1, 999}, {999, mostGram}}, {{mostGram, mostGram - 1}, {mostGram - 1, mostGram}}, {{2, 3}, {3, 6}}, diagonal(4, 3, 2, 1), diagonal(mostGram, 1, mostGram, 1),
		{{mostGram, mostGram - 1, 0, 0}, {mostGram - 1, mostGram, 0, 0}, {0, 0, mostGram - 1, mostGram - 1}, {0, 0, mostGram - 1, mostGram}},
	}
	for range 1500 {
		list = append(list, hard(&n), n.gram(n.between(1, 4), 400))
	}
	for _, g := range list {
		r, e := lattice.Reduce(g)
		want(t, fmt.Sprint("Reduce of ", g), e, api.OK)
		want(t, fmt.Sprint("the reduction of ", g, " is reduced"), slowReduced(r.Gram), true)
		if !same(bigTimes(bigTimes(bigOf(r.Rows), bigOf(g), len(g)), bigOf(turned(r.Rows)), len(g)), bigOf(r.Gram)) {
			t.Errorf("Reduce of %v: %v does not belong to it", g, r)
		}
		wantUnimodular(t, fmt.Sprint("Reduce of ", g), bigOf(r.Rows), len(g))
		want(t, "CheckReduced of a reduction", lattice.CheckReduced(g, r), api.OK)
	}
}

func TestCheckReduced(t *testing.T) {
	g := matrix{{2, 3}, {3, 6}} // reduced: (2 1 / 1 2) by (1 0 / -1 1)
	reduced := matrix{{2, 1}, {1, 2}}
	for _, x := range []struct {
		rows, gram matrix
		e          api.Errno
	}{
		{matrix{{1, 0}, {-1, 1}}, reduced, api.OK}, {matrix{{-1, 0}, {1, -1}}, reduced, api.OK}, {matrix{{-1, 1}, {1, 0}}, reduced, api.OK}, {matrix{{1, 0}, {1, -1}}, matrix{{2, -1}, {-1, 2}}, api.OK},
		{matrix{{1, 0}, {1, -1}}, reduced, api.ErrProof}, {unit(2), g, api.ErrProof}, {unit(2), reduced, api.ErrProof}, {nil, nil, api.ErrProof}, {matrix{{1, 0}, {-1, 1}}, nil, api.ErrProof}, {nil, reduced, api.ErrProof},
		{matrix{{1, 0}}, matrix{{2}}, api.ErrProof}, {matrix{{1, 0}, {-1}}, reduced, api.ErrProof}, {matrix{{1, 0}, {-1, 1}}, matrix{{2, 1}, {1}}, api.ErrProof}, {unit(3), reduced, api.ErrProof}, {matrix{{1, 0}, {-1, 1}}, unit(3), api.ErrProof}, {matrix{{1, 0}, {-1, 1}, {0, 0}}, reduced, api.ErrProof}, {matrix{{1, 0}, {-1, 1}}, matrix{{2, 1}, {1, 2}, {0, 0}}, api.ErrProof},
		{matrix{{1, 0}, {-1, limit + 1}}, reduced, api.ErrProof}, {matrix{{least, 0}, {-1, 1}}, reduced, api.ErrProof}, {matrix{{1, 0}, {-1, 1}}, matrix{{2, greatest}, {1, 2}}, api.ErrProof}, {filled(65, 65, 0), reduced, api.ErrProof},
		{matrix{{1, 0}, {2, 0}}, matrix{{2, 4}, {4, 8}}, api.ErrProof}, {matrix{{0, 0}, {0, 0}}, matrix{{0, 0}, {0, 0}}, api.ErrProof}, {matrix{{0, 0}, {1, 0}}, matrix{{0, 0}, {0, 2}}, api.ErrProof}, {matrix{{1, 0}, {-2, 2}}, matrix{{2, 2}, {2, 8}}, api.ErrProof},
		{matrix{{limit, limit - 1}, {-limit, limit}}, matrix{{limit, limit}, {limit, limit}}, api.ErrProof}, {matrix{{1, 0}, {limit, 1}}, matrix{{2, limit}, {limit, limit}}, api.ErrProof},
	} {
		want(t, fmt.Sprint("CheckReduced of ", x.rows, " and ", x.gram), lattice.CheckReduced(g, api.Reduced{Gram: x.gram, Rows: x.rows}), x.e)
	}
	// All that a single step turns a reduction into is refused, if it is none.
	n := numbers(22)
	for range 300 {
		g := hard(&n)
		r, _ := lattice.Reduce(g)
		for _, m := range []matrix{r.Rows, r.Gram} {
			i, j := n.between(0, len(g)-1), n.between(0, len(g)-1)
			m[i][j]++
			right := same(times(times(r.Rows, g), turned(r.Rows)), r.Gram)
			want(t, "CheckReduced of a wrong reduction", lattice.CheckReduced(g, r) == api.OK, right && slowReduced(r.Gram))
			m[i][j]--
		}
	}
}
