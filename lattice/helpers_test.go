package lattice_test

import (
	"fmt"
	"math"
	"math/big"
	"reflect"
	"slices"
	"testing"

	"fourfold/api"
	"fourfold/integer"
	"fourfold/lattice"
)

const (
	least    = math.MinInt
	greatest = math.MaxInt
	limit    = api.MaxEntry
)

// matrix is a matrix with these rows.
type matrix = [][]int

// cut is the text of x, or the beginning of a long one.
func cut(x any) string {
	const most = 500
	s := fmt.Sprint(x)
	if len(s) > most {
		return s[:most] + " .."
	}
	return s
}

// want compares comparable results.
func want[T comparable](t *testing.T, what string, got, wanted T) {
	t.Helper()
	if got != wanted {
		t.Errorf("%s: %v, want %v", cut(what), got, wanted)
	}
}

// same compares results, where a nil slice and an empty one are the same.
func same(a, b any) bool {
	return fmt.Sprintf("%T %v", a, a) == fmt.Sprintf("%T %v", b, b)
}

// wantResult compares a result and an error.
func wantResult(t *testing.T, what string, got any, e api.Errno, wanted any, f api.Errno) {
	t.Helper()
	if e != f || !same(got, wanted) {
		t.Errorf("%s: %v, error %d, want %v, error %d", cut(what), cut(got), e, cut(wanted), f)
	}
}

// wantError checks that there is this error, and that every other result is its zero value.
func wantError(t *testing.T, what string, f api.Errno, results ...any) {
	t.Helper()
	want(t, what, results[len(results)-1].(api.Errno), f)
	for _, r := range results[:len(results)-1] {
		if v := reflect.ValueOf(r); !v.IsZero() && (v.Kind() != reflect.Slice || v.Len() > 0) {
			t.Errorf("%s: %v beside the error", cut(what), cut(r))
		}
	}
}

// all gives all results of a function as a list.
func all(results ...any) []any { return results }

// numbers yields numbers that follow a rule without a pattern, the same ones each time.
type numbers uint64

func (n *numbers) next() uint64 {
	*n += 0x9e3779b97f4a7c15
	z := uint64(*n)
	z = (z ^ z>>30) * 0xbf58476d1ce4e5b9
	z = (z ^ z>>27) * 0x94d049bb133111eb
	return z ^ z>>31
}

// between is a number from a to b.
func (n *numbers) between(a, b int) int { return a + int(n.next()%uint64(b-a+1)) }

// matrix is a matrix of this size with numbers from -most to most.
func (n *numbers) matrix(rows, columns, most int) matrix {
	m := make(matrix, rows)
	for i := range m {
		m[i] = make([]int, columns)
		for j := range m[i] {
			m[i][j] = n.between(-most, most)
		}
	}
	return m
}

// unimodular is a unimodular matrix: a product of steps.
func (n *numbers) unimodular(size, steps int) matrix {
	m := unit(size)
	for i := range m {
		m[i][i] -= 2 * n.between(0, 1)
	}
	for range steps {
		i, j, by := n.between(0, size-1), n.between(0, size-1), n.between(-2, 2)
		if i == j {
			continue
		}
		for k := range m {
			m[i][k] += by * m[j][k]
		}
	}
	return m
}

// lattice is a lattice in this dimension with the stated number of rows.
func (n *numbers) lattice(dim, rows, most, den int) api.Lattice {
	return api.Lattice{Dim: dim, Rows: n.matrix(rows, dim, most), Den: n.between(1, den)}
}

// full is a lattice of full rank.
func (n *numbers) full(dim, most, den int) api.Lattice {
	for {
		l := n.lattice(dim, dim+n.between(0, 2), most, den)
		if rank, _ := lattice.Rank(l.Rows); rank == dim {
			return l
		}
	}
}

// gram is a Gram matrix.
func (n *numbers) gram(size, most int) matrix {
	for {
		rows := n.matrix(size, size, most)
		g := times(rows, turned(rows))
		for i := range g {
			g[i][i] += n.between(0, 1)
		}
		if lattice.CheckGram(g) == api.OK {
			return g
		}
	}
}

// unit is the unit matrix.
func unit(n int) matrix { return diagonal(slices.Repeat([]int{1}, n)...) }

// diagonal is the matrix with these numbers on its diagonal.
func diagonal(numbers ...int) matrix {
	m := make(matrix, len(numbers))
	for i, n := range numbers {
		m[i] = make([]int, len(numbers))
		m[i][i] = n
	}
	return m
}

// filled is a matrix in which all numbers are n.
func filled(rows, columns, n int) matrix {
	m := make(matrix, rows)
	for i := range m {
		m[i] = slices.Repeat([]int{n}, columns)
	}
	return m
}

// copyOf is m in memory of its own.
func copyOf(m matrix) matrix {
	var list matrix
	for _, row := range m {
		list = append(list, slices.Clone(row))
	}
	return list
}

// turned is the transposed matrix, for one with rows.
func turned(m matrix) matrix {
	t := make(matrix, len(m[0]))
	for j := range t {
		for i := range m {
			t[j] = append(t[j], m[i][j])
		}
	}
	return t
}

// times is a product of small matrices.
func times(a, b matrix) matrix {
	p := make(matrix, len(a))
	for i := range a {
		p[i] = make([]int, len(b[0]))
		for k := range b {
			for j := range p[i] {
				p[i][j] += a[i][k] * b[k][j]
			}
		}
	}
	return p
}

// toBig is the value of x.
func toBig(x api.Int) *big.Int {
	n, _ := new(big.Int).SetString(integer.Format(x), 10)
	return n
}

// bigs is a matrix of big integers.
type bigs [][]*big.Int

// bigOf are the ints as big integers.
func bigOf(m matrix) bigs {
	var list bigs
	for _, row := range m {
		var r []*big.Int
		for _, n := range row {
			r = append(r, big.NewInt(int64(n)))
		}
		list = append(list, r)
	}
	return list
}

// bigInts are integers of several words, which have to be in normal form.
func bigInts(t *testing.T, m [][]api.Int) bigs {
	t.Helper()
	var list bigs
	for _, row := range m {
		var r []*big.Int
		for _, x := range row {
			if n := len(x.Words); n > 0 && x.Words[n-1] == 0 || n == 0 && x.Neg {
				t.Errorf("%v is not in normal form", x)
			}
			r = append(r, toBig(x))
		}
		list = append(list, r)
	}
	return list
}

// bigTimes is a product of matrices; b has as many columns as stated.
func bigTimes(a, b bigs, columns int) bigs {
	var p bigs
	for _, row := range a {
		r := make([]*big.Int, columns)
		for j := range r {
			r[j] = new(big.Int)
			for k, x := range row {
				r[j].Add(r[j], new(big.Int).Mul(x, b[k][j]))
			}
		}
		p = append(p, r)
	}
	return p
}

// rational eliminates with fractions, and gives rank and determinant (of a square matrix).
func rational(m bigs) (int, *big.Int) {
	var a [][]*big.Rat
	for _, row := range m {
		var r []*big.Rat
		for _, x := range row {
			r = append(r, new(big.Rat).SetInt(x))
		}
		a = append(a, r)
	}
	rank, det := 0, big.NewRat(1, 1)
	for j := 0; len(a) > 0 && j < len(a[0]); j++ {
		i := rank
		for i < len(a) && a[i][j].Sign() == 0 {
			i++
		}
		if i == len(a) {
			det = new(big.Rat)
			continue
		}
		if i != rank {
			a[i], a[rank] = a[rank], a[i]
			det.Neg(det)
		}
		det.Mul(det, a[rank][j])
		for i := rank + 1; i < len(a); i++ {
			by := new(big.Rat).Quo(a[i][j], a[rank][j])
			for k := j; k < len(a[i]); k++ {
				a[i][k] = new(big.Rat).Sub(a[i][k], new(big.Rat).Mul(by, a[rank][k]))
			}
		}
		rank++
	}
	if rank < len(a) {
		det = new(big.Rat)
	}
	return rank, det.Num()
}

// residues eliminates modulo a prime, and gives rank and determinant (of a square matrix).
func residues(m bigs, p int64) (int, int64) {
	var a [][]int64
	for _, row := range m {
		var r []int64
		for _, x := range row {
			r = append(r, new(big.Int).Mod(x, big.NewInt(p)).Int64())
		}
		a = append(a, r)
	}
	rank, det := 0, int64(1)
	for j := 0; len(a) > 0 && j < len(a[0]); j++ {
		i := rank
		for i < len(a) && a[i][j] == 0 {
			i++
		}
		if i == len(a) {
			det = 0
			continue
		}
		if i != rank {
			a[i], a[rank] = a[rank], a[i]
			det = (p - det) % p
		}
		det = det * a[rank][j] % p
		inverse := new(big.Int).ModInverse(big.NewInt(a[rank][j]), big.NewInt(p)).Int64()
		for i := rank + 1; i < len(a); i++ {
			by := a[i][j] * inverse % p
			for k := j; k < len(a[i]); k++ {
				a[i][k] = (a[i][k] + (p-by)*a[rank][k]) % p
			}
		}
		rank++
	}
	if rank < len(a) {
		det = 0
	}
	return rank, det
}

// wantUnimodular checks that m is unimodular: by fractions if it is small, otherwise modulo primes.
func wantUnimodular(t *testing.T, what string, m bigs, size int) {
	t.Helper()
	want(t, what+": rows", len(m), size)
	for _, row := range m {
		want(t, what+": columns", len(row), size)
	}
	if size <= 8 {
		_, det := rational(m)
		want(t, what+": determinant", det.CmpAbs(big.NewInt(1)), 0)
		return
	}
	sign := int64(0)
	for _, p := range []int64{1000003, 998244353, 999999937} {
		_, det := residues(m, p)
		if det == p-1 {
			det = -1
		}
		if det != 1 && det != -1 || sign != 0 && sign != det {
			t.Errorf("%s: the determinant is %d modulo %d", what, det, p)
		}
		sign = det
	}
}

// isHermite reports whether h is a Hermite form.
func isHermite(h matrix) bool {
	last := -1
	for i, row := range h {
		pivot := slices.IndexFunc(row, func(n int) bool { return n != 0 })
		if pivot < 0 {
			return !slices.ContainsFunc(h[i:], func(r []int) bool { return slices.ContainsFunc(r, func(n int) bool { return n != 0 }) })
		}
		if pivot <= last || row[pivot] < 0 {
			return false
		}
		for _, above := range h[:i] {
			if above[pivot] < 0 || above[pivot] >= row[pivot] {
				return false
			}
		}
		last = pivot
	}
	return true
}

// slowHermite is the Hermite form, by steps of Euclid's algorithm with rows.
func slowHermite(m matrix) matrix {
	h := bigOf(m)
	less := func(i, k int, by *big.Int) {
		for c, x := range h[k] {
			h[i][c] = new(big.Int).Sub(h[i][c], new(big.Int).Mul(by, x))
		}
	}
	top := 0
	for j := 0; len(h) > 0 && j < len(h[0]); j++ {
		for i := top + 1; i < len(h); i++ {
			for h[i][j].Sign() != 0 {
				less(top, i, new(big.Int).Quo(h[top][j], h[i][j]))
				h[top], h[i] = h[i], h[top]
			}
		}
		if top == len(h) || h[top][j].Sign() == 0 {
			continue
		}
		if h[top][j].Sign() < 0 {
			for _, x := range h[top] {
				x.Neg(x)
			}
		}
		for i := range top {
			less(i, top, new(big.Int).Div(h[i][j], h[top][j]))
		}
		top++
	}
	var list matrix
	for _, row := range h {
		r := make([]int, len(row))
		for j, x := range row {
			r[j] = int(x.Int64())
		}
		list = append(list, r)
	}
	return list
}

// box yields all lists of k numbers from a to b, in lexicographic order.
func box(k, a, b int) func(func([]int) bool) {
	return func(yield func([]int) bool) {
		x := slices.Repeat([]int{a}, k)
		for {
			if !yield(slices.Clone(x)) {
				return
			}
			i := k - 1
			for i >= 0 && x[i] == b {
				x[i] = a
				i--
			}
			if i < 0 {
				return
			}
			x[i]++
		}
	}
}

// gcdOf is the greatest common divisor.
func gcdOf(list ...int) int {
	g := 0
	for _, n := range list {
		for n != 0 {
			g, n = n, g%n
		}
	}
	if g < 0 {
		return -g
	}
	return g
}
