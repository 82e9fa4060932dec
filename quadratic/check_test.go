package quadratic_test

import (
	"fmt"
	"math/big"
	"testing"

	"fourfold/api"
	"fourfold/quadratic"
)

// The tests of this file are those of P6.1.

func TestCheck(t *testing.T) {
	for _, x := range []struct {
		f api.Form
		e api.Errno
	}{
		{hexagonal(), api.OK}, {rootsA3(), api.OK}, {rootsD4(), api.OK}, {fourSquares(), api.OK}, {of([]int{2, -1}, []int{-1, 2}), api.OK},
		{api.Form{}, api.ErrShape}, {api.Form{N: 2}, api.ErrShape}, {api.Form{N: 4}, api.ErrShape}, {diagonal(1), api.ErrShape}, {diagonal(1, 1, 1, 1, 1), api.ErrShape},
		{api.Form{N: 3, Gram: hexagonal().Gram}, api.ErrShape}, {api.Form{N: 2, Gram: rootsA3().Gram}, api.ErrShape}, {api.Form{N: 0, Gram: matrix{}}, api.ErrShape}, {api.Form{N: -2, Gram: hexagonal().Gram}, api.ErrShape},
		{api.Form{N: least}, api.ErrShape}, {api.Form{N: greatest, Gram: hexagonal().Gram}, api.ErrShape}, {api.Form{N: 1, Gram: hexagonal().Gram}, api.ErrShape}, {api.Form{N: 5, Gram: fourSquares().Gram}, api.ErrShape},
		{of([]int{2, 1}, []int{1}), api.ErrShape}, {of([]int{2, 1}, []int{1, 2, 0}), api.ErrShape}, {of(nil, []int{1, 2}), api.ErrShape}, {of([]int{}, []int{}), api.ErrShape}, {of([]int{2, 1, 0}, []int{1, 2, 0}), api.ErrShape},
		// ahead of numbers that are too large in earlier rows
		{of([]int{1001, 1}, []int{1}), api.ErrShape}, {api.Form{N: 3, Gram: matrix{{least, 0}, {0, 2}}}, api.ErrShape},
		{diagonal(500, 500), api.OK}, {diagonal(501, 1), api.ErrLarge}, {diagonal(1, 501), api.ErrLarge}, {diagonal(1, 1, 1, 501), api.ErrLarge}, {diagonal(-501, 1), api.ErrLarge}, {of([]int{2, 1001}, []int{1001, 2}), api.ErrLarge}, {of([]int{2, -1001}, []int{-1001, 2}), api.ErrLarge},
		{of([]int{least, 0}, []int{0, greatest}), api.ErrLarge}, {of([]int{2, 0}, []int{least, 2}), api.ErrLarge}, {of([]int{1001, 1}, []int{1, 2}), api.ErrLarge}, {of([]int{1, 1}, []int{0, 1001}), api.ErrLarge}, {of([]int{2, 1000}, []int{1000, 2}), api.ErrForm}, {of([]int{2, -1000}, []int{-1000, 2}), api.ErrForm},
		{of([]int{1000, 999}, []int{999, 1000}), api.OK}, {of([]int{1000, -999}, []int{-999, 1000}), api.OK}, {of([]int{1000, 1000}, []int{1000, 1000}), api.ErrForm}, {of([]int{1000, -1000}, []int{-1000, 1000}), api.ErrForm},
		{of([]int{2, 1}, []int{0, 2}), api.ErrForm}, {of([]int{2, 0}, []int{1, 2}), api.ErrForm}, {of([]int{2, 1}, []int{-1, 2}), api.ErrForm}, {of([]int{4, 0, 1}, []int{0, 4, 0}, []int{0, 0, 4}), api.ErrForm}, {of([]int{4, 0, 0, 0}, []int{0, 4, 0, 0}, []int{0, 0, 4, 1}, []int{0, 0, 0, 4}), api.ErrForm},
		{of([]int{3, 0}, []int{0, 2}), api.ErrForm}, {of([]int{2, 0}, []int{0, 3}), api.ErrForm}, {of([]int{2, 0, 0}, []int{0, 2, 0}, []int{0, 0, 999}), api.ErrForm}, {of([]int{2, 0, 0, 0}, []int{0, 2, 0, 0}, []int{0, 0, 2, 0}, []int{0, 0, 0, 1}), api.ErrForm}, {of([]int{-3, 0}, []int{0, 2}), api.ErrForm},
		{of([]int{0, 0}, []int{0, 2}), api.ErrForm}, {of([]int{2, 0}, []int{0, 0}), api.ErrForm}, {diagonal(-1, 1), api.ErrForm}, {diagonal(1, -1), api.ErrForm}, {diagonal(-1, -1), api.ErrForm}, {diagonal(1, 1, -1, -1), api.ErrForm}, {diagonal(1, 1, 0), api.ErrForm},
		{of([]int{2, 2}, []int{2, 2}), api.ErrForm}, {of([]int{2, 3}, []int{3, 2}), api.ErrForm}, {of([]int{2, 1, 1}, []int{1, 2, -1}, []int{1, -1, 2}), api.ErrForm}, {of([]int{2, 1, -1}, []int{1, 2, 1}, []int{-1, 1, 2}), api.ErrForm}, {of([]int{2, 0, 0, 1}, []int{0, 2, 0, 1}, []int{0, 0, 2, 1}, []int{1, 1, 1, 2}), api.OK},
		{of([]int{2, 0, 0, 2}, []int{0, 2, 0, 2}, []int{0, 0, 2, 2}, []int{2, 2, 2, 6}), api.ErrForm}, {of([]int{2, 0, 0, 2}, []int{0, 2, 0, 2}, []int{0, 0, 2, 2}, []int{2, 2, 2, 8}), api.OK},
	} {
		want(t, fmt.Sprint("Check ", x.f), quadratic.Check(x.f), x.e)
	}
}

func TestCheckOfAnyMatrices(t *testing.T) {
	n := numbers(1)
	seen := map[api.Errno]int{}
	for range 3000 {
		long := one(&n, 2, 6, 500)
		f := of(n.symmetric(n.between(2, 4), long, one(&n, 1, 2*long))...)
		wanted := api.ErrForm
		if isPositive(f.Gram) {
			wanted = api.OK
		}
		want(t, fmt.Sprint("Check ", f), quadratic.Check(f), wanted)
		seen[wanted]++
	}
	if seen[api.OK] < 500 || seen[api.ErrForm] < 500 {
		t.Error("forms and others:", seen)
	}
}

func TestValue(t *testing.T) {
	n := numbers(2)
	for range 400 {
		f := n.any()
		x := make([]int, f.N)
		sum := new(big.Int)
		for i := range x {
			x[i] = n.between(-one(&n, 3, coord), one(&n, 3, coord))
		}
		for i, a := range x {
			for j, b := range x {
				term := big.NewInt(int64(a))
				sum.Add(sum, term.Mul(term, big.NewInt(int64(b*f.Gram[i][j]))))
			}
		}
		v, e := quadratic.Value(f, x)
		wantResult(t, fmt.Sprint("Value ", f, x), v, e, int(sum.Int64()/2), api.OK)
	}
	v, e := quadratic.Value(of([]int{1000, 999, 999, 999}, []int{999, 1000, 999, 999}, []int{999, 999, 1000, 999}, []int{999, 999, 999, 1000}), []int{coord, coord, coord, coord})
	wantResult(t, "the greatest value", v, e, 7994000000000000, api.OK)
	v, e = quadratic.Value(hexagonal(), []int{-coord, coord})
	wantResult(t, "numbers at the end of the range", v, e, coord*coord, api.OK)
	for _, x := range []struct {
		f api.Form
		v []int
		e api.Errno
	}{
		{hexagonal(), nil, api.ErrShape}, {hexagonal(), []int{}, api.ErrShape}, {hexagonal(), []int{1}, api.ErrShape}, {hexagonal(), []int{1, 2, 3}, api.ErrShape}, {hexagonal(), []int{1, 2, 3, 4, 5, 6}, api.ErrShape}, {fourSquares(), []int{1, 2, 3}, api.ErrShape}, {hexagonal(), []int{coord + 1}, api.ErrShape},
		{hexagonal(), []int{coord + 1, 0}, api.ErrRange}, {hexagonal(), []int{0, -coord - 1}, api.ErrRange}, {fourSquares(), []int{0, 0, 0, least}, api.ErrRange}, {fourSquares(), []int{0, greatest, 0, 0}, api.ErrRange}, {diagonal(501, 1), []int{coord + 1}, api.ErrLarge},
	} {
		wantError(t, fmt.Sprint("Value ", x.f, x.v), x.e, all(quadratic.Value(x.f, x.v))...)
	}
}

func TestDet(t *testing.T) {
	n := numbers(3)
	for range 500 {
		f := n.any()
		d, e := quadratic.Det(f)
		wantResult(t, fmt.Sprint("Det ", f), d, e, int(det(f.Gram).Int64()), api.OK)
	}
	d, e := quadratic.Det(diagonal(500, 500, 500, 500))
	wantResult(t, "the greatest determinant", d, e, 1000000000000, api.OK)
}

// hasLevel reports whether n times the inverse is a matrix of integers with an even diagonal.
func hasLevel(f api.Form, n int) bool {
	for i, row := range inverse(f.Gram) {
		for j, x := range row {
			multiple := new(big.Rat).Mul(x, big.NewRat(int64(n), 1))
			if i == j {
				multiple.Mul(multiple, big.NewRat(1, 2))
			}
			if !multiple.IsInt() {
				return false
			}
		}
	}
	return true
}

func TestLevel(t *testing.T) {
	n := numbers(4)
	for range 300 {
		f := n.any()
		level, e := quadratic.Level(f)
		want(t, "Level", e, api.OK)
		// Those that will do are the multiples of the least one: so it is enough to look at its parts by primes.
		if level < 1 || !hasLevel(f, level) {
			t.Errorf("Level %v: %d is none", f, level)
			continue
		}
		rest := level
		for p := 2; rest > 1; p++ {
			if p*p > rest {
				p = rest
			}
			if rest%p == 0 && hasLevel(f, level/p) {
				t.Errorf("Level %v: %d is less than %d", f, level/p, level)
			}
			for rest%p == 0 {
				rest /= p
			}
		}
	}
	for _, x := range []struct {
		f     api.Form
		level int
	}{{hexagonal(), 3}, {fourSquares(), 4}, {diagonal(1, 1), 4}, {diagonal(1, 1, 1), 4}, {rootsA3(), 8}, {rootsA4(), 5}, {rootsD4(), 2}, {diagonal(2, 2), 8}, {diagonal(499, 500), 998000}, {beside(hexagonal(), hexagonal()), 3}, {diagonal(500, 499, 497, 491), 4 * 500 * 499 * 497 * 491}} {
		level, e := quadratic.Level(x.f)
		wantResult(t, fmt.Sprint("Level ", x.f), level, e, x.level, api.OK)
	}
}

func TestContent(t *testing.T) {
	n := numbers(5)
	seen := map[int]int{}
	for range 500 {
		f := n.any()
		by := one(&n, 1, 1, 2, 3, 6)
		for i, row := range f.Gram {
			for j := range row {
				row[j] *= by
				if i != j && n.between(0, 3) == 0 {
					f.Gram[i][j], f.Gram[j][i] = 0, 0
				}
			}
		}
		if quadratic.Check(f) != api.OK {
			continue
		}
		var values []int
		for _, x := range cube(f.N) {
			values = append(values, value(f, x))
		}
		content, e := quadratic.Content(f)
		wantResult(t, fmt.Sprint("Content ", f), content, e, commonDivisor(values...), api.OK)
		seen[content]++
	}
	if len(seen) < 5 {
		t.Error("contents:", seen)
	}
	for _, x := range []struct {
		f       api.Form
		content int
	}{{hexagonal(), 1}, {diagonal(1, 1), 1}, {of([]int{4, 1}, []int{1, 4}), 1}, {of([]int{4, 2}, []int{2, 4}), 2}, {diagonal(500, 500, 500), 500}, {of([]int{12, 6, 0}, []int{6, 12, 3}, []int{0, 3, 12}), 3}, {diagonal(6, 10, 15), 1}, {diagonal(12, 20, 30, 60), 2}} {
		content, e := quadratic.Content(x.f)
		wantResult(t, fmt.Sprint("Content ", x.f), content, e, x.content, api.OK)
	}
}

// cube are the vectors with numbers from -1 to 1.
func cube(size int) [][]int {
	list := [][]int{nil}
	for range size {
		var longer [][]int
		for _, x := range list {
			for n := -1; n <= 1; n++ {
				longer = append(longer, append(append([]int{}, x...), n))
			}
		}
		list = longer
	}
	return list
}

func TestApply(t *testing.T) {
	n := numbers(6)
	seen := map[api.Errno]int{}
	for range 600 {
		f := n.any()
		m := n.unimodular(f.N, n.between(0, 8))
		wanted, e := taken(f, m), api.OK
		if !fits(wanted.Gram, most) {
			wanted, e = api.Form{}, api.ErrLarge
		}
		seen[e]++
		g, got := quadratic.Apply(f, m)
		wantResult(t, fmt.Sprint("Apply ", f, m), g, got, wanted, e)
	}
	if seen[api.OK] < 100 || seen[api.ErrLarge] < 100 {
		t.Error("results of Apply:", seen)
	}
	g, e := quadratic.Apply(hexagonal(), matrix{{1, 1}, {0, 1}})
	wantResult(t, "Apply of the example", g, e, of([]int{6, 3}, []int{3, 2}), api.OK)
	g, e = quadratic.Apply(diagonal(1, 100), matrix{{20, 1}, {1, 0}})
	wantResult(t, "a result that just fits", g, e, of([]int{1000, 40}, []int{40, 2}), api.OK)
	g, e = quadratic.Apply(diagonal(1, 100), matrix{{-20, -1}, {-1, 0}})
	wantResult(t, "the opposite matrix", g, e, of([]int{1000, 40}, []int{40, 2}), api.OK)
}

// wrapped is a matrix with numbers that fit and the determinant 2^64 + 1.
func wrapped() matrix {
	const rest = (1<<64 + 1) / 274177
	const base = 40000
	// The three last rows have the determinant rest, by its digits.
	return matrix{{274177, 0, 0, 0}, {0, base, -1, 0}, {0, 0, base, -1}, {0, rest % base, rest / base % base, rest / (base * base)}}
}

func TestErrorsOfApply(t *testing.T) {
	two := new(big.Int).Lsh(big.NewInt(1), 64)
	want(t, "a determinant", det(wrapped()).Cmp(two.Add(two, big.NewInt(1))), 0)
	for _, x := range []struct {
		f api.Form
		t matrix
		e api.Errno
	}{
		{hexagonal(), nil, api.ErrShape}, {hexagonal(), matrix{}, api.ErrShape}, {hexagonal(), matrix{{}, {}}, api.ErrShape}, {hexagonal(), unit(3), api.ErrShape}, {rootsA3(), unit(2), api.ErrShape}, {hexagonal(), matrix{{1, 0}}, api.ErrShape}, {hexagonal(), matrix{{1, 0}, {0, 1}, {0, 0}}, api.ErrShape}, {hexagonal(), matrix{{1, 0}, {0, 1, 0}}, api.ErrShape}, {hexagonal(), matrix{{coord + 1, 0}, {0}}, api.ErrShape},
		{hexagonal(), matrix{{1, coord + 1}, {0, 1}}, api.ErrRange}, {hexagonal(), matrix{{1, 0}, {-coord - 1, 1}}, api.ErrRange}, {hexagonal(), matrix{{least, least}, {0, 0}}, api.ErrRange}, {fourSquares(), matrix{{1, 0, 0, 0}, {0, 1, 0, 0}, {0, 0, 1, 0}, {0, 0, 0, greatest}}, api.ErrRange},
		{hexagonal(), matrix{{0, 0}, {0, 0}}, api.ErrForm}, {hexagonal(), matrix{{2, 0}, {0, 1}}, api.ErrForm}, {hexagonal(), matrix{{1, 1}, {1, 1}}, api.ErrForm}, {hexagonal(), matrix{{coord, 0}, {0, coord}}, api.ErrForm}, {hexagonal(), matrix{{1, 1}, {1, -1}}, api.ErrForm}, {fourSquares(), wrapped(), api.ErrForm}, {rootsA3(), matrix{{1, 0, 0}, {0, 1, 0}, {0, 1, 0}}, api.ErrForm},
		{hexagonal(), matrix{{1, coord}, {0, 1}}, api.ErrLarge}, {hexagonal(), matrix{{1, 0}, {-coord, -1}}, api.ErrLarge}, {diagonal(1, 100), matrix{{21, 1}, {1, 0}}, api.ErrLarge}, {diagonal(1, 101), matrix{{20, 1}, {1, 0}}, api.ErrLarge}, {diagonal(1, 1, 1), matrix{{1, 0, 0}, {0, 1, 0}, {0, 23, 1}}, api.ErrLarge},
		{diagonal(501, 1), matrix{{coord + 1}}, api.ErrLarge}, {api.Form{}, nil, api.ErrShape},
	} {
		wantError(t, fmt.Sprint("Apply ", x.f, x.t), x.e, all(quadratic.Apply(x.f, x.t))...)
	}
}
