package quadratic_test

import (
	"fmt"
	"math"
	"math/big"
	"reflect"
	"slices"
	"testing"

	"fourfold/api"
	"fourfold/quadratic"
)

const (
	least    = math.MinInt
	greatest = math.MaxInt
	coord    = api.MaxCoord
	most     = api.MaxForm
	many     = api.MaxVectors
)

// matrix is a matrix with these rows.
type matrix = [][]int

// of is the form with these rows as its Gram matrix.
func of(rows ...[]int) api.Form { return api.Form{N: len(rows), Gram: rows} }

// diagonal is the form with these coefficients.
func diagonal(list ...int) api.Form {
	f := api.Form{N: len(list)}
	for i, n := range list {
		row := make([]int, len(list))
		row[i] = 2 * n
		f.Gram = append(f.Gram, row)
	}
	return f
}

// beside is the form of two forms in separate variables.
func beside(f, g api.Form) api.Form {
	var sum api.Form
	sum.N = f.N + g.N
	for _, row := range f.Gram {
		sum.Gram = append(sum.Gram, append(slices.Clone(row), make([]int, g.N)...))
	}
	for _, row := range g.Gram {
		sum.Gram = append(sum.Gram, append(make([]int, f.N), row...))
	}
	return sum
}

// Forms that everybody knows.
func hexagonal() api.Form   { return of([]int{2, 1}, []int{1, 2}) }
func fourSquares() api.Form { return diagonal(1, 1, 1, 1) }
func rootsA3() api.Form     { return of([]int{2, -1, 0}, []int{-1, 2, -1}, []int{0, -1, 2}) }
func rootsA4() api.Form {
	return of([]int{2, -1, 0, 0}, []int{-1, 2, -1, 0}, []int{0, -1, 2, -1}, []int{0, 0, -1, 2})
}
func rootsD4() api.Form {
	return of([]int{2, -1, 0, 0}, []int{-1, 2, -1, -1}, []int{0, -1, 2, 0}, []int{0, -1, 0, 2})
}

// want compares comparable results.
func want[T comparable](t *testing.T, what string, got, wanted T) {
	t.Helper()
	if got != wanted {
		t.Errorf("%s: %v, want %v", what, got, wanted)
	}
}

// same compares results, where a nil slice and an empty one are the same.
func same(a, b any) bool {
	return fmt.Sprintf("%T %v", a, a) == fmt.Sprintf("%T %v", b, b)
}

// wantResult compares a result and an error.
func wantResult(t *testing.T, what string, got any, e api.Errno, wanted any, f api.Errno) {
	t.Helper()
	if e != f || !same(got, wanted) {
		t.Errorf("%s: %v, error %d, want %v, error %d", what, got, e, wanted, f)
	}
}

// wantError checks that there is this error, and that every other result is its zero value.
func wantError(t *testing.T, what string, f api.Errno, results ...any) {
	t.Helper()
	last := len(results) - 1
	want(t, what, results[last].(api.Errno), f)
	for _, r := range results[:last] {
		if v := reflect.ValueOf(r); !v.IsZero() && (v.Kind() != reflect.Slice || v.Len() > 0) {
			t.Errorf("%s: %v beside the error", what, r)
		}
	}
}

// made is the result of a function that has to be OK.
func made[T any](t *testing.T) func(result T, e api.Errno) T {
	return func(result T, e api.Errno) T {
		t.Helper()
		if e != api.OK {
			t.Fatalf("no result, but error %d", e)
		}
		return result
	}
}

// all gives all results of a function as a list.
func all(results ...any) []any { return results }

// numbers yields numbers that follow a rule without a pattern, the same ones each time.
type numbers uint64

func (n *numbers) next() uint64 {
	*n += 0x9e3779b97f4a7c15
	z := uint64(*n)
	z = (z ^ z>>30) * 0xbf58476d1ce4e5b9
	z = (z ^ z>>27) * 0x94d049bb133111eb
	return z ^ z>>31
}

// between is a number from a to b.
func (n *numbers) between(a, b int) int { return a + int(n.next()%uint64(b-a+1)) }

// one is an element of a list.
func one[T any](n *numbers, list ...T) T { return list[n.between(0, len(list)-1)] }

// symmetric is a symmetric matrix with an even diagonal: numbers from 1 to long, twice, and otherwise from -side to side.
func (n *numbers) symmetric(size, long, side int) matrix {
	m := make(matrix, size)
	for i := range m {
		m[i] = make([]int, size)
		m[i][i] = 2 * n.between(1, long)
		for j := range i {
			m[i][j] = n.between(-side, side)
			m[j][i] = m[i][j]
		}
	}
	return m
}

// form is a form of this size.
func (n *numbers) form(size, long, side int) api.Form {
	for {
		if m := n.symmetric(size, long, side); isPositive(m) {
			return of(m...)
		}
	}
}

// any is a form of any size, mild or not, often one with few different vectors of a basis, sometimes in a basis that hides this.
func (n *numbers) any() api.Form {
	size := n.between(2, 4)
	f := n.form(size, one(n, 1, 2, 3, 5, 12), one(n, 0, 1, 2, 4))
	switch n.between(0, 5) {
	case 0:
		f = n.form(size, 500, one(n, 10, 200, 600))
	case 1:
		f = one(n, hexagonal(), fourSquares(), rootsA3(), rootsA4(), rootsD4(), diagonal(1, 1), diagonal(2, 2, 3), beside(hexagonal(), hexagonal()))
	}
	if n.between(0, 1) == 0 {
		f, _ = n.hidden(f, n.between(1, 12))
	}
	return f
}

// unit is the unit matrix.
func unit(n int) matrix {
	m := make(matrix, n)
	for i := range m {
		m[i] = make([]int, n)
		m[i][i] = 1
	}
	return m
}

// times is the product of two matrices.
func times(a, b matrix) matrix {
	p := make(matrix, len(a))
	for i := range a {
		p[i] = make([]int, len(b[0]))
		for k, x := range a[i] {
			for j, y := range b[k] {
				p[i][j] += x * y
			}
		}
	}
	return p
}

// turned is the transposed matrix.
func turned(m matrix) matrix {
	t := make(matrix, len(m[0]))
	for i := range t {
		for _, row := range m {
			t[i] = append(t[i], row[i])
		}
	}
	return t
}

// taken is the form to which t takes f.
func taken(f api.Form, t matrix) api.Form {
	return of(times(times(t, f.Gram), turned(t))...)
}

// fits reports whether all numbers are from -limit to limit.
func fits(m matrix, limit int) bool {
	for _, row := range m {
		for _, x := range row {
			if x < -limit || x > limit {
				return false
			}
		}
	}
	return true
}

// step is a unimodular matrix that changes one row: by its sign, or by a multiple of another one.
func (n *numbers) step(size int) matrix {
	m := unit(size)
	i, j := n.between(0, size-1), n.between(0, size-1)
	if i == j {
		m[i][i] = -1
	} else {
		m[i][j] = n.between(-2, 2)
	}
	return m
}

// unimodular is a product of steps.
func (n *numbers) unimodular(size, steps int) matrix {
	m := unit(size)
	for range steps {
		m = times(n.step(size), m)
	}
	return m
}

// hidden is an equivalent form, by at most as many steps as stated, whose numbers fit, and the matrix that takes f to it.
func (n *numbers) hidden(f api.Form, steps int) (api.Form, matrix) {
	return n.hiddenWithin(f, steps, most)
}

// hiddenWithin is such a form with numbers up to a limit.
func (n *numbers) hiddenWithin(f api.Form, steps, limit int) (api.Form, matrix) {
	t := unit(f.N)
	for range steps {
		s := n.step(f.N)
		if g := taken(f, s); fits(g.Gram, limit) {
			f, t = g, times(s, t)
		}
	}
	return f, t
}

// permutations yields those of the numbers from 0 to n - 1, and their signs.
func permutations(n int, yield func(p []int, sign int)) {
	var choose func(p []int, sign int)
	choose = func(p []int, sign int) {
		if len(p) == n {
			yield(p, sign)
			return
		}
		for x := range n {
			if slices.Contains(p, x) {
				continue
			}
			s := sign
			for _, y := range p {
				if y > x {
					s = -s
				}
			}
			choose(append(slices.Clone(p), x), s)
		}
	}
	choose(nil, 1)
}

// det is the determinant, by its definition.
func det(m matrix) *big.Int {
	sum := new(big.Int)
	permutations(len(m), func(p []int, sign int) {
		product := big.NewInt(int64(sign))
		for i, j := range p {
			product.Mul(product, big.NewInt(int64(m[i][j])))
		}
		sum.Add(sum, product)
	})
	return sum
}

// corner is the first k rows and columns.
func corner(m matrix, k int) matrix {
	c := make(matrix, k)
	for i := range c {
		c[i] = m[i][:k]
	}
	return c
}

// isPositive reports whether a symmetric matrix is positive definite.
func isPositive(m matrix) bool {
	for k := range m {
		if det(corner(m, k+1)).Sign() <= 0 {
			return false
		}
	}
	return true
}

// inverse is the inverse of a matrix with a determinant that is not 0, by Gauss's elimination.
func inverse(m matrix) [][]*big.Rat {
	n := len(m)
	rows := make([][]*big.Rat, n)
	for i := range rows {
		for j := range 2 * n {
			x := 0
			if j < n {
				x = m[i][j]
			} else if j == n+i {
				x = 1
			}
			rows[i] = append(rows[i], big.NewRat(int64(x), 1))
		}
	}
	for k := range n {
		i := k
		for rows[i][k].Sign() == 0 {
			i++
		}
		rows[i], rows[k] = rows[k], rows[i]
		by := new(big.Rat).Inv(rows[k][k])
		for j := range rows[k] {
			rows[k][j] = new(big.Rat).Mul(rows[k][j], by)
		}
		for i := range rows {
			if i == k {
				continue
			}
			by := rows[i][k]
			for j := range rows[i] {
				rows[i][j] = new(big.Rat).Sub(rows[i][j], new(big.Rat).Mul(by, rows[k][j]))
			}
		}
	}
	for i := range rows {
		rows[i] = rows[i][n:]
	}
	return rows
}

// back is the inverse of a unimodular matrix.
func back(m matrix) matrix {
	list := make(matrix, len(m))
	for i, row := range inverse(m) {
		for _, x := range row {
			list[i] = append(list[i], int(x.Num().Int64()))
		}
	}
	return list
}

// between is the product of two vectors.
func between(f api.Form, x, y []int) int {
	sum := 0
	for i := range x {
		for j := range y {
			sum += x[i] * f.Gram[i][j] * y[j]
		}
	}
	return sum
}

// value is the value at x.
func value(f api.Form, x []int) int { return between(f, x, x) / 2 }

// vectors are all vectors with a value up to bound, lexicographically: those of a box beyond which values are greater. There are none if the box is too large to go through.
func vectors(f api.Form, bound int) [][]int {
	const largest = 300000
	var box []int
	volume := 1
	for i, row := range inverse(f.Gram) {
		square := new(big.Rat).Mul(row[i], big.NewRat(int64(2*bound), 1))
		r := 0
		for big.NewRat(int64(r*r), 1).Cmp(square) <= 0 {
			r++
		}
		box = append(box, r)
		volume *= 2*r + 1
	}
	if volume > largest {
		return nil
	}
	var list [][]int
	var choose func(x []int)
	choose = func(x []int) {
		if len(x) == f.N {
			if value(f, x) <= bound {
				list = append(list, slices.Clone(x))
			}
			return
		}
		for n := -box[len(x)]; n <= box[len(x)]; n++ {
			choose(append(x, n))
		}
	}
	choose(nil)
	return list
}

// commonDivisor is the greatest common divisor.
func commonDivisor(list ...int) int {
	g := new(big.Int)
	for _, n := range list {
		g.GCD(nil, nil, g, new(big.Int).Abs(big.NewInt(int64(n))))
	}
	return int(g.Int64())
}

// knownForm is a form and the number of its automorphisms.
type knownForm struct {
	form  api.Form
	count int
}

func known() []knownForm {
	return []knownForm{
		{hexagonal(), 12}, {diagonal(1, 1), 8}, {diagonal(1, 7), 4}, {of([]int{4, 1}, []int{1, 6}), 2}, {diagonal(1, 1, 1), 48}, {rootsA3(), 48}, {beside(hexagonal(), diagonal(1)), 24},
		{fourSquares(), 384}, {rootsA4(), 240}, {rootsD4(), 1152}, {beside(hexagonal(), hexagonal()), 288}, {beside(hexagonal(), diagonal(1, 1)), 96}, {beside(rootsA3(), diagonal(1)), 96}, {diagonal(1, 2, 3, 5), 16},
	}
}

// determinant is the determinant of a form.
func determinant(t *testing.T, f api.Form) int {
	t.Helper()
	return made[int](t)(quadratic.Det(f))
}
