package brandt_test

import (
	"fmt"
	"math/big"
	"testing"

	"fourfold/api"
	"fourfold/brandt"
	"fourfold/ideal"
	"fourfold/integer"
)

// The tests of this file are those of P8.8 to P8.10.

// allMatrices are the Brandt matrices of a class set, by their numbers.
func allMatrices(t *testing.T, a api.Algebra, c api.Classes) map[int][][]int {
	t.Helper()
	list := map[int][][]int{}
	for n := 1; n <= api.MaxNorm; n++ {
		if common(n, c.Level) == 1 {
			list[n] = made[[][]int](t)(brandt.Matrix(a, c, n))
		}
	}
	return list
}

// wantRows checks the sums of the rows, the symmetry and the eigenvector of the row sums.
func wantRows(t *testing.T, what string, c api.Classes, n int, m [][]int) {
	t.Helper()
	total := made[int](t)(brandt.RowSum(c.Disc, n))
	vector := made[[]int](t)(brandt.Eisenstein(c))
	left := make([]int, len(m))
	for i, row := range m {
		sum := 0
		for j, x := range row {
			sum += x
			left[j] += vector[i] * x
			want(t, what+": its symmetry", c.Units[j]*x, c.Units[i]*m[j][i])
		}
		want(t, what+": a row sum", sum, total)
	}
	for j, x := range left {
		want(t, what+": its eigenvector", x, total*vector[j])
	}
	found := false
	kernel := made[[][]int](t)(brandt.Kernel(m, total))
	for _, v := range kernel {
		found = found || fmt.Sprint(v) == fmt.Sprint(vector)
	}
	want(t, what+": its eigenvector in a kernel", found || len(kernel) > 1, true)
}

func TestRelationsOfMatrices(t *testing.T) {
	for _, g := range genera() {
		c := classes(t, g.a, g.level)
		list := allMatrices(t, g.a, c)
		for n, m := range list {
			what := fmt.Sprint("Matrix ", g, n)
			wantRows(t, what, c, n, m)
			if n == 1 {
				for i, row := range m {
					for j, x := range row {
						want(t, "the unit matrix", x == 1, i == j)
						want(t, "the unit matrix", x == 0, i != j)
					}
				}
			}
			for k, other := range list {
				product := made[[][]int](t)(brandt.Times(m, other))
				if !same(product, made[[][]int](t)(brandt.Times(other, m))) {
					t.Errorf("%s does not commute with that of %d", what, k)
				}
				if both, ok := list[n*k]; ok && common(n, k) == 1 && !same(product, both) {
					t.Errorf("%s times that of %d is another one", what, k)
				}
				both, ok := list[n*k]
				if !ok || !integer.IsPrime(n) || !isPower(k, n) {
					continue
				}
				if c.Disc%n != 0 && k > 1 {
					for i, row := range list[k/n] {
						for j, x := range row {
							product[i][j] -= n * x
						}
					}
				}
				if !same(product, both) {
					t.Errorf("%s and that of %d do not give that of %d", what, k, n*k)
				}
			}
		}
	}
}

// isPower reports whether k is a power of p.
func isPower(k, p int) bool {
	for k%p == 0 {
		k /= p
	}
	return k == 1
}

// The number of maps is that of the elements x with x I(j) in I(i) of the right norm: those of I(i) times the inverse of I(j).
func TestNumbersOfMaps(t *testing.T) {
	for _, g := range []genus{{hamilton, 13}, {eleven, 3}, {thirty, 7}} {
		c := classes(t, g.a, g.level)
		for _, k := range []int{1, 2, 5, 11, 22} {
			m := made[[][]int](t)(brandt.Matrix(g.a, c, k))
			for i, l := range c.Ideals {
				for j, other := range c.Ideals {
					inverse := made[api.Lattice](t)(ideal.Inverse(g.a, other))
					product := made[api.Lattice](t)(ideal.Product(g.a, l, inverse))
					size := made[api.Frac](t)(ideal.Norm(g.a, product))
					list, e := ideal.Elements(g.a, product, frac(new(big.Rat).Mul(rat(k, 1), rat(size.Num, size.Den))))
					want(t, "Elements", e, api.OK)
					want(t, fmt.Sprint("the number of maps ", g, k, i, j), len(list), c.Units[j]*m[i][j])
				}
			}
		}
	}
}

// allRoots is the number of real roots, each one as often as it is one.
func allRoots(t *testing.T, p poly) int {
	t.Helper()
	count := 0
	for p.degree() > 0 {
		s := polyFrom(made[[]api.Int](t)(brandt.Squarefree(p.ints())))
		count += made[int](t)(brandt.Between(s.ints(), api.Frac{Num: -billion, Den: 1}, api.Frac{Num: billion, Den: 1}))
		p, _ = p.divided(s)
	}
	return count
}

func TestEigenvalues(t *testing.T) {
	for _, g := range genera() {
		c := classes(t, g.a, g.level)
		for _, n := range []int{1, 2, 3, 5, 6, 7, 11, 22, 23, 37, 43, 47} {
			if common(n, g.level) > 1 {
				continue
			}
			m := made[[][]int](t)(brandt.Matrix(g.a, c, n))
			p := polyFrom(made[[]api.Int](t)(brandt.Characteristic(m)))
			want(t, fmt.Sprint("the real roots ", g, n), allRoots(t, p), len(m))
			list := made[[]api.Enclosure](t)(brandt.Enclose(p.ints(), 1000))
			want(t, fmt.Sprint("the enclosures ", g, n), brandt.CheckEnclosures(p.ints(), list), api.OK)
			if !integer.IsPrime(n) || c.Disc%n == 0 {
				continue
			}
			// The polynomial of the squares of the roots of q has the values q(x) q(-x) at x^2: there must be none above 4 n.
			q := polyFrom(made[[]api.Int](t)(brandt.Cuspidal(g.a, c, n)))
			opposite := q.scaled(rat(1, 1))
			for i := 1; i < len(opposite); i += 2 {
				opposite[i].Neg(opposite[i])
			}
			var squares poly
			for i, x := range q.times(opposite) {
				if i%2 == 0 {
					squares = append(squares, x)
				}
			}
			above := made[int](t)(brandt.Between(squares.ints(), api.Frac{Num: 4 * n, Den: 1}, api.Frac{Num: billion, Den: 1}))
			want(t, fmt.Sprint("the eigenvalues above 2 root(n) ", g, n), above, 0)
		}
	}
}

func TestPolynomialsOfAllClassSets(t *testing.T) {
	n := numbers(141)
	for _, g := range []genus{{eleven, 1}, {hamilton, 13}, {hamilton, 15}, {thirty, 7}, {api.Algebra{A: -2, B: -37}, 1}} {
		c := classes(t, g.a, g.level)
		others := []api.Classes{n.shuffled(t, g.a, c)}
		for _, l := range c.Ideals { // of the left orders
			left := made[api.Lattice](t)(ideal.LeftOrder(g.a, l))
			others = append(others, made[api.Classes](t)(ideal.ClassSet(g.a, left)))
		}
		for _, k := range []int{1, 2, 11, 22, 49} {
			if common(k, g.level) > 1 {
				continue
			}
			m := made[[][]int](t)(brandt.Matrix(g.a, c, k))
			p := made[[]api.Int](t)(brandt.Characteristic(m))
			for _, other := range others {
				m := made[[][]int](t)(brandt.Matrix(g.a, other, k))
				q, e := brandt.Characteristic(m)
				wantResult(t, fmt.Sprint("the characteristic polynomial ", g, k), q, e, p, api.OK)
			}
		}
	}
}

func TestTraces(t *testing.T) {
	for p, a := range map[int]api.Algebra{2: hamilton, 3: {A: -1, B: -3}, 5: {A: -2, B: -5}, 7: {A: -1, B: -7}, 11: eleven, 23: {A: -1, B: -23}, 37: {A: -2, B: -37}, 67: {A: -1, B: -67}, 97: {A: -7, B: -97}} {
		c := classes(t, a, 1)
		want(t, "the discriminant", c.Disc, p)
		for _, n := range []int{1, 2, 3, 4, 6, 9, 11, 12, 22, 23, 25, 36, 37, 49, 50} {
			m := made[[][]int](t)(brandt.Matrix(a, c, n))
			sum := 0
			for i, row := range m {
				sum += row[i]
			}
			trace, e := brandt.Trace(p, n)
			wantResult(t, fmt.Sprint("Trace ", p, n), trace, e, api.Frac{Num: sum, Den: 1}, api.OK)
		}
		trace, e := brandt.Trace(p, 1)
		wantResult(t, fmt.Sprint("Trace ", p), trace, e, api.Frac{Num: len(c.Ideals), Den: 1}, api.OK)
	}
}

// valueAt is the matrix of the value of a polynomial at a matrix.
func valueAt(p poly, m [][]int) [][]*big.Int {
	value := make([][]*big.Int, len(m))
	for i := range value {
		value[i] = make([]*big.Int, len(m))
		for j := range value[i] {
			value[i][j] = new(big.Int)
		}
	}
	for k := p.degree(); k >= 0; k-- {
		next := make([][]*big.Int, len(m))
		for i := range next {
			next[i] = make([]*big.Int, len(m))
			for j := range next[i] {
				next[i][j] = new(big.Int)
				for l := range m {
					next[i][j].Add(next[i][j], new(big.Int).Mul(value[i][l], big.NewInt(int64(m[l][j]))))
				}
			}
			next[i][i].Add(next[i][i], p[k].Num())
		}
		value = next
	}
	return value
}

func TestCayleyAndHamilton(t *testing.T) {
	n := numbers(142)
	for _, rows := range []int{1, 2, 3, 5, 9, 20} {
		m := n.matrix(rows, million)
		p := polyFrom(made[[]api.Int](t)(brandt.Characteristic(m)))
		want(t, "the degree", p.degree(), rows)
		want(t, "the leading coefficient", p.lead().Cmp(rat(1, 1)), 0)
		for _, row := range valueAt(p, m) {
			for _, x := range row {
				want(t, "the value at the matrix", x.Sign(), 0)
			}
		}
	}
}

// The number of all real roots is the difference of the changes of sign in the Sturm chain, below and above them.
func TestRootsByTheChain(t *testing.T) {
	n := numbers(143)
	for range 100 {
		x := n.rooted(30)
		changes := func(at *big.Rat) int {
			count, last := 0, 0
			for _, q := range made[[][]api.Int](t)(brandt.Sturm(x.p.ints())) {
				s := polyFrom(q).at(at).Sign()
				if s*last < 0 {
					count++
				}
				if s != 0 {
					last = s
				}
			}
			return count
		}
		want(t, fmt.Sprint("the number of roots of ", x.p), changes(rat(-billion, 1))-changes(rat(billion, 1)), len(x.roots))
	}
}
