package brandt_test

import (
	"fmt"
	"testing"

	"fourfold/api"
	"fourfold/brandt"
	"fourfold/ideal"
	"fourfold/integer"
	"fourfold/lattice"
	"fourfold/order"
)

// The tests of this file are those of P8.2.

// below is the lattice in l with the same right order and p times its norm, for a prime p that divides the discriminant of the algebra. There is one: that of all elements of l whose norm, divided by that of l, is a multiple of p. Modulo p they are a plane.
func below(t *testing.T, a api.Algebra, l api.Lattice, p int) api.Lattice {
	t.Helper()
	l = made[api.Lattice](t)(lattice.Normal(l))
	size := made[api.Frac](t)(ideal.Norm(a, l))
	scale := size.Num * l.Den * l.Den / size.Den // the norm, times Den^2
	part := made[api.Lattice](t)(lattice.Scale(l, api.Frac{Num: p, Den: 1}))
	var first []int
	for k := 1; k < p*p*p*p; k++ {
		c := [4]int{k / (p * p * p), k / (p * p) % p, k / p % p, k % p}
		var x [4]int
		for i, row := range l.Rows {
			for j, n := range row {
				x[j] += c[i] * n
			}
		}
		if norm(a, x)/scale%p != 0 || first != nil && isMultiple(c[:], first, p) {
			continue
		}
		part = made[api.Lattice](t)(lattice.Sum(part, api.Lattice{Dim: 4, Rows: [][]int{x[:]}, Den: l.Den}))
		if first != nil {
			break
		}
		first = c[:]
	}
	bigger := made[api.Frac](t)(ideal.Norm(a, part))
	want(t, "the norm of the ideal at p", rat(bigger.Num, bigger.Den).Cmp(rat(p*size.Num, size.Den)), 0)
	want(t, "the right order of the ideal at p", same(made[api.Lattice](t)(ideal.RightOrder(a, part)), made[api.Lattice](t)(ideal.RightOrder(a, l))), true)
	return part
}

// isMultiple reports whether c is a multiple of d modulo p.
func isMultiple(c, d []int, p int) bool {
	for i := range c {
		for j := range c {
			if (c[i]*d[j]-c[j]*d[i])%p != 0 {
				return false
			}
		}
	}
	return true
}

// slowMatrix is the Brandt matrix by its definition: the ideals of each norm are listed, and their classes looked for.
func slowMatrix(t *testing.T, a api.Algebra, c api.Classes, n int) [][]int {
	t.Helper()
	var m [][]int
	for _, l := range c.Ideals {
		row := make([]int, len(c.Ideals))
		rest := n
		for p := 2; p <= rest; p++ {
			for integer.IsPrime(p) && c.Disc%p == 0 && rest%p == 0 {
				l = below(t, a, l, p)
				rest /= p
			}
		}
		for _, part := range made[[]api.Lattice](t)(ideal.OfNorm(a, l, rest)) {
			number, _, e := ideal.ClassOf(a, c, part)
			want(t, "ClassOf", e, api.OK)
			row[number]++
		}
		m = append(m, row)
	}
	return m
}

func TestMatrixByItsDefinition(t *testing.T) {
	n := numbers(90)
	for _, g := range genera() {
		c := classes(t, g.a, g.level)
		if g.level%2 == 1 {
			c = n.shuffled(t, g.a, c)
		}
		for _, k := range []int{1, 2, 3, 4, 5, 6, 7, 8, 9, 11, 12, 14, 15, 22, 23, 25, 30, 37, 44, 46} {
			if common(k, g.level) > 1 || k > 9 && common(k, c.Disc) == 1 && len(c.Ideals) > 2 {
				continue
			}
			m, e := brandt.Matrix(g.a, c, k)
			wantResult(t, fmt.Sprint("Matrix ", g, k), m, e, slowMatrix(t, g.a, c, k), api.OK)
		}
	}
}

func TestMatrixExamples(t *testing.T) {
	c := classes(t, hamilton, 1)
	for n := 1; n <= api.MaxNorm; n++ {
		m, e := brandt.Matrix(hamilton, c, n)
		wantResult(t, fmt.Sprint("Matrix of Hurwitz ", n), m, e, [][]int{{sumOf(n, func(d int) bool { return d%2 == 1 })}}, api.OK)
	}
	c = classes(t, eleven, 1)
	wanted, vector := [][]int{{1, 2}, {3, 0}}, []int{3, 2}
	if c.Units[0] == 6 {
		wanted, vector = [][]int{{0, 3}, {2, 1}}, []int{2, 3}
	}
	m, e := brandt.Matrix(eleven, c, 2)
	wantResult(t, "Matrix for 11", m, e, wanted, api.OK)
	list, e := brandt.Eisenstein(c)
	wantResult(t, "Eisenstein for 11", list, e, vector, api.OK)
}

func TestMatrixOfManyClasses(t *testing.T) {
	c := classes(t, hamilton, 719)
	want(t, "the number of classes", len(c.Ideals), api.MaxClasses)
	m := made[[][]int](t)(brandt.Matrix(hamilton, c, 50))
	trace := 0
	for i, row := range m {
		total := 0
		for _, n := range row {
			total += n
		}
		want(t, "a row sum", total, 1+5+25)
		trace += m[i][i]
	}
	want(t, "the number of rows", len(m), api.MaxClasses)
}

func TestErrorsOfMatrix(t *testing.T) {
	c := classes(t, hamilton, 15)
	bad := c
	bad.Disc = 3
	for _, x := range []struct {
		a api.Algebra
		c api.Classes
		n int
		e api.Errno
	}{
		{api.Algebra{}, c, 0, api.ErrZero}, {six, c, 0, api.ErrDefinite}, {hamilton, api.Classes{}, 0, api.ErrRange}, {hamilton, api.Classes{Order: lipschitz}, 3, api.ErrOrder}, {hamilton, api.Classes{Order: hurwitz, Units: []int{1}}, 0, api.ErrShape}, {hamilton, bad, 0, api.ErrProof}, {hamilton, bad, 3, api.ErrProof},
		{hamilton, c, 0, api.ErrRange}, {hamilton, c, -1, api.ErrRange}, {hamilton, c, api.MaxNorm + 1, api.ErrRange}, {hamilton, c, 60, api.ErrRange}, {hamilton, c, least, api.ErrRange}, {hamilton, c, greatest, api.ErrRange},
		{hamilton, c, 3, api.ErrPrime}, {hamilton, c, 5, api.ErrPrime}, {hamilton, c, 50, api.ErrPrime}, {hamilton, c, 6, api.ErrPrime}, {hamilton, c, 45, api.ErrPrime},
	} {
		what := fmt.Sprint("Matrix ", x.a, x.n)
		m, e := brandt.Matrix(x.a, x.c, x.n)
		wantError(t, what, x.e, m, e)
		p, e := brandt.Cuspidal(x.a, x.c, x.n)
		wantError(t, "Cuspidal instead of "+what, x.e, p, e)
	}
	for _, n := range []int{1, 2, 4, 49, 32} {
		_, e := brandt.Matrix(hamilton, c, n)
		want(t, fmt.Sprint("Matrix ", n), e, api.OK)
	}
	_, e := brandt.Matrix(hamilton, classes(t, hamilton, 1), api.MaxNorm)
	want(t, "Matrix with the greatest n", e, api.OK)
	// No list of ideals is one without the order.
	c.Order = made[api.Lattice](t)(order.Conjugate(hamilton, c.Order, api.Quat{W: 1, X: 1, Y: 3, Den: 1}))
	m, e := brandt.Matrix(hamilton, c, 1)
	wantError(t, "Matrix of another order", api.ErrProof, m, e)
}

func TestRowSum(t *testing.T) {
	for _, disc := range []int{1, 2, 3, 6, 11, 30, 36, 1000, million} {
		for _, n := range []int{1, 2, 3, 4, 6, 7, 11, 12, 22, 50, 121, 360, 1000, 30030, 999983, million} {
			wanted := sumOf(n, func(d int) bool { return common(d, disc) == 1 })
			total, e := brandt.RowSum(disc, n)
			wantResult(t, fmt.Sprint("RowSum ", disc, n), total, e, wanted, api.OK)
		}
	}
	for _, x := range [][2]int{{0, 1}, {1, 0}, {-1, 1}, {1, -1}, {million + 1, 1}, {1, million + 1}, {least, 5}, {5, least}, {greatest, greatest}} {
		total, e := brandt.RowSum(x[0], x[1])
		wantError(t, fmt.Sprint("RowSum ", x), api.ErrRange, total, e)
	}
}

// slowProduct is the product of two matrices.
func slowProduct(m, k [][]int) [][]int {
	var p [][]int
	for i := range m {
		var row []int
		for j := range k {
			total := 0
			for l := range k {
				total += m[i][l] * k[l][j]
			}
			row = append(row, total)
		}
		p = append(p, row)
	}
	return p
}

// full is a matrix with the same element everywhere.
func full(rows, columns, element int) [][]int {
	m := make([][]int, rows)
	for i := range m {
		for range columns {
			m[i] = append(m[i], element)
		}
	}
	return m
}

func TestTimes(t *testing.T) {
	n := numbers(91)
	for _, rows := range []int{1, 2, 3, 7, 59, api.MaxClasses} {
		for _, most := range []int{1, 9, million} {
			m, k := n.matrix(rows, most), n.matrix(rows, most)
			p, e := brandt.Times(m, k)
			wantResult(t, fmt.Sprint("Times ", m, k), p, e, slowProduct(m, k), api.OK)
		}
	}
	p, e := brandt.Times(full(60, 60, million), full(60, 60, -million))
	wantResult(t, "the greatest product", p, e, full(60, 60, -60*million*million), api.OK)
	p, e = brandt.Times([][]int{{1, 2}, {3, 4}}, [][]int{{0, 1}, {0, 0}})
	wantResult(t, "Times", p, e, [][]int{{0, 1}, {0, 3}}, api.OK)
}

// badMatrices are no matrices, with their errors.
func badMatrices() map[api.Errno][][][]int {
	far := full(61, 61, 0)
	far[0][0] = least
	short := full(62, 62, 0)
	short[61] = short[61][:61]
	return map[api.Errno][][][]int{
		api.ErrShape: {nil, {}, {{}}, {nil}, {{1, 2}}, {{1}, {2}}, {{1, 2}, {3}}, {{1, 2}, {3, 4, 5}}, {{least, 2}, nil}, short, full(61, 60, 1), full(60, 61, least)},
		api.ErrLarge: {full(61, 61, 0), full(64, 64, 1), full(100, 100, least), far},
		api.ErrRange: {{{million + 1}}, {{-million - 1}}, {{least}}, {{greatest}}, {{1, 2}, {3, million + 1}}, {{1, -million - 1}, {3, 4}}, full(60, 60, greatest)},
	}
}

func TestErrorsOfMatrices(t *testing.T) {
	good := [][]int{{1, million}, {-million, 4}}
	for e, list := range badMatrices() {
		for _, m := range list {
			what := fmt.Sprint(" of ", m)
			p, f := brandt.Times(m, good)
			wantError(t, "Times"+what, e, p, f)
			p, f = brandt.Times(good, m)
			wantError(t, "Times"+what, e, p, f)
			for g, others := range badMatrices() { // the error of the first one
				p, f = brandt.Times(m, others[0])
				wantError(t, fmt.Sprint("Times", what, " and one with error ", g), e, p, f)
			}
			poly, f := brandt.Characteristic(m)
			wantError(t, "Characteristic"+what, e, poly, f)
			for _, k := range []int{0, million + 1} {
				rows, f := brandt.Kernel(m, k)
				wantError(t, "Kernel"+what, e, rows, f)
			}
		}
	}
	for _, x := range [][2]int{{1, 2}, {2, 1}, {60, 59}} {
		p, e := brandt.Times(full(x[0], x[0], 1), full(x[1], x[1], 1))
		wantError(t, fmt.Sprint("Times of sizes ", x), api.ErrShape, p, e)
	}
}

func TestEisenstein(t *testing.T) {
	n := numbers(92)
	units := func(count int) []int {
		var list []int
		for range count {
			list = append(list, n.between(1, 24))
		}
		return list
	}
	lists := [][]int{{1}, {24}, {2, 4}, {4, 6}, {6, 4}, {24, 1}, {23, 19, 17, 13, 11, 7, 5, 16, 9}, {1, 2, 3, 4, 5, 6, 7, 8, 9, 10, 11, 12, 13, 14, 15, 16, 17, 18, 19, 20, 21, 22, 23, 24}, {5, 5, 5}}
	for range 30 {
		lists = append(lists, units(n.between(1, 10)), units(api.MaxClasses))
	}
	for _, list := range lists {
		vector, e := brandt.Eisenstein(api.Classes{Units: list})
		what := fmt.Sprint("Eisenstein ", list)
		want(t, what, e, api.OK)
		want(t, what, len(vector), len(list))
		divisor := 0
		for i, v := range vector {
			want(t, what+" is positive", v > 0, true)
			want(t, what+" is proportional", v*list[i], vector[0]*list[0])
			divisor = common(divisor, v)
		}
		want(t, what+" without a common divisor", divisor, 1)
	}
	many := make([]int, api.MaxClasses+1)
	for _, x := range []struct {
		units []int
		e     api.Errno
	}{
		{nil, api.ErrShape}, {[]int{}, api.ErrShape}, {many, api.ErrLarge}, {make([]int, 1000), api.ErrLarge}, {many[1:], api.ErrRange},
		{[]int{0}, api.ErrRange}, {[]int{25}, api.ErrRange}, {[]int{-1}, api.ErrRange}, {[]int{2, 4, 0}, api.ErrRange}, {[]int{least, 1}, api.ErrRange}, {[]int{1, greatest}, api.ErrRange},
	} {
		vector, e := brandt.Eisenstein(api.Classes{Order: hurwitz, Disc: 2, Level: 1, Ideals: []api.Lattice{hurwitz}, Units: x.units})
		wantError(t, fmt.Sprint("Eisenstein ", x.units), x.e, vector, e)
	}
}
