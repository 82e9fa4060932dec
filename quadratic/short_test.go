package quadratic_test

import (
	"cmp"
	"fmt"
	"slices"
	"testing"

	"fourfold/api"
	"fourfold/quadratic"
)

// The tests of this file are those of P6.2.

// isFirst reports whether the first number of x other than 0 is positive.
func isFirst(x []int) bool {
	for _, n := range x {
		if n != 0 {
			return n > 0
		}
	}
	return false
}

// listed are the results of the four functions by their definitions, from all vectors up to a bound, lexicographically.
type listed struct {
	short     [][]int
	exact     [][]int
	theta     []int
	primitive int
}

func listedOf(f api.Form, all [][]int, bound int) listed {
	l := listed{theta: make([]int, bound+1)}
	for _, x := range all {
		v := value(f, x)
		l.theta[v]++
		if isFirst(x) {
			l.short = append(l.short, x)
		}
		if v == bound {
			l.exact = append(l.exact, x)
			if commonDivisor(x...) == 1 {
				l.primitive++
			}
		}
	}
	slices.SortStableFunc(l.short, func(x, y []int) int { return cmp.Compare(value(f, x), value(f, y)) })
	return l
}

// wantListed checks the results of the four functions.
func wantListed(t *testing.T, f api.Form, bound int, l listed) {
	t.Helper()
	what := fmt.Sprint(f, bound)
	e := api.OK
	if len(l.short) > many {
		l.short, e = nil, api.ErrLarge
	}
	short, got := quadratic.Short(f, bound)
	wantResult(t, "Short "+what, short, got, l.short, e)
	e = api.OK
	if len(l.exact) > many {
		l.exact, e = nil, api.ErrLarge
	}
	exact, got := quadratic.Represent(f, bound)
	wantResult(t, "Represent "+what, exact, got, l.exact, e)
	theta, e := quadratic.Theta(f, bound)
	wantResult(t, "Theta "+what, theta, e, l.theta, api.OK)
	primitive, e := quadratic.Primitive(f, bound)
	wantResult(t, "Primitive "+what, primitive, e, l.primitive, api.OK)
}

func TestVectors(t *testing.T) {
	n := numbers(10)
	sizes, imprimitive := map[int]int{}, 0
	for range 500 {
		f, bound := n.any(), n.between(0, 40)
		list := vectors(f, bound)
		if list == nil { // too many to go through
			continue
		}
		sizes[f.N]++
		l := listedOf(f, list, bound)
		if l.primitive < len(l.exact) {
			imprimitive++
		}
		wantListed(t, f, bound, l)
	}
	if sizes[2] < 50 || sizes[3] < 50 || sizes[4] < 50 || imprimitive < 20 {
		t.Error("forms of each size:", sizes, "and vectors that are not primitive:", imprimitive)
	}
}

func TestVectorsOfGreatValues(t *testing.T) {
	n := numbers(11)
	for range 60 {
		size := n.between(2, 4)
		f := n.form(size, one(&n, 40, 150), one(&n, 4, 60))
		bound := n.between(200, 300)
		if list := vectors(f, bound); list != nil {
			wantListed(t, f, bound, listedOf(f, list, bound))
		}
	}
}

// The vectors of a form that is hidden are those of the form, times the inverse of what hides it.
func TestVectorsOfHiddenForms(t *testing.T) {
	n := numbers(12)
	steps := 0
	for range 80 {
		f := n.form(n.between(2, 4), one(&n, 1, 2, 4), 2)
		g, m := n.hidden(f, 60)
		if fits(m, 5) {
			continue
		}
		steps++
		bound := n.between(1, 12)
		var list [][]int
		for _, x := range vectors(f, bound) {
			list = append(list, times(matrix{x}, back(m))[0])
		}
		slices.SortFunc(list, slices.Compare)
		wantListed(t, g, bound, listedOf(g, list, bound))
	}
	if steps < 30 {
		t.Error("only so many forms are hidden well:", steps)
	}
}

// sumOfDivisors is the sum of weight(d, n/d) over the divisors d of n.
func sumOfDivisors(n int, weight func(d, e int) int) int {
	sum := 0
	for d := 1; d <= n; d++ {
		if n%d == 0 {
			sum += weight(d, n/d)
		}
	}
	return sum
}

// series are the known numbers of the vectors of the values n > 0 of a form.
type series struct {
	name  string
	form  api.Form
	count func(n int) int
}

func knownSeries() []series {
	// periodic is d times its number in the list, as this goes on and on.
	periodic := func(d int, list ...int) int { return d * list[d%len(list)] }
	return []series{
		{"two squares", diagonal(1, 1), func(n int) int {
			return 4 * sumOfDivisors(n, func(d, _ int) int { return periodic(d, 0, 1, 0, -1) / d })
		}},
		{"hexagonal", hexagonal(), func(n int) int {
			return 6 * sumOfDivisors(n, func(d, _ int) int { return periodic(d, 0, 1, -1) / d })
		}},
		{"four squares", fourSquares(), func(n int) int {
			return 8 * sumOfDivisors(n, func(d, _ int) int { return periodic(d, 0, 1, 1, 1) })
		}},
		{"D4", rootsD4(), func(n int) int {
			return 24 * sumOfDivisors(n, func(d, _ int) int { return periodic(d, 0, 1) })
		}},
		{"two hexagonal forms", beside(hexagonal(), hexagonal()), func(n int) int {
			return 12 * sumOfDivisors(n, func(d, _ int) int { return periodic(d, 0, 1, 1) })
		}},
		{"A4", rootsA4(), func(n int) int {
			return sumOfDivisors(n, func(d, e int) int { return 25*d*periodic(e, 0, 1, -1, -1, 1)/e - 5*periodic(d, 0, 1, -1, -1, 1) })
		}},
	}
}

func TestKnownSeries(t *testing.T) {
	n := numbers(13)
	for _, s := range knownSeries() {
		name := s.name
		f, _ := n.hidden(s.form, 10)
		theta, e := quadratic.Theta(f, api.MaxValue)
		want(t, name, e, api.OK)
		want(t, name, len(theta), api.MaxValue+1)
		want(t, name, theta[0], 1)
		for k := 1; k < len(theta); k++ {
			want(t, fmt.Sprint(name, " at ", k), theta[k], s.count(k))
		}
		for _, k := range []int{1, 2, 5, 48, 49, 72, 97, 240, 299, 300} {
			list, e := quadratic.Represent(f, k)
			if s.count(k) > many {
				wantError(t, fmt.Sprint(name, " at ", k), api.ErrLarge, list, e)
			} else {
				want(t, name, e, api.OK)
				want(t, fmt.Sprint(name, " at ", k), len(list), s.count(k))
			}
			// All vectors are multiples of primitive ones.
			sum := 0
			for d := 1; d*d <= k; d++ {
				if k%(d*d) == 0 {
					sum += made[int](t)(quadratic.Primitive(f, k/(d*d)))
				}
			}
			want(t, fmt.Sprint("primitive ", name, " at ", k), sum, s.count(k))
		}
	}
}

func TestEndsOfTheLimitOfVectors(t *testing.T) {
	ternary := diagonal(2, 1, 1)
	ternary.Gram[1] = []int{0, 2, 2}
	ternary.Gram[2] = []int{0, 2, 4}
	for _, x := range []struct {
		f     api.Form
		n     int
		count int
	}{{ternary, 225, 5000}, {of([]int{4, 2, 1}, []int{2, 2, -1}, []int{1, -1, 4}), 162, 5001}, {fourSquares(), 300, 222932}} {
		theta := made[[]int](t)(quadratic.Theta(x.f, x.n))
		sum := 0
		for _, count := range theta[1:] {
			sum += count
		}
		want(t, "vectors", sum/2, x.count)
		short, e := quadratic.Short(x.f, x.n)
		if x.count > many {
			wantError(t, fmt.Sprint("Short ", x.f, x.n), api.ErrLarge, short, e)
		} else {
			want(t, "Short", e, api.OK)
			want(t, "Short", len(short), x.count)
		}
	}
	three := rootsA3()
	for _, x := range []struct {
		f     api.Form
		n     int
		count int
	}{{beside(three, diagonal(2)), 279, 4992}, {beside(three, diagonal(1)), 298, 5032}, {rootsD4(), 270, 5760}} {
		want(t, "vectors", made[[]int](t)(quadratic.Theta(x.f, x.n))[x.n], x.count)
		list, e := quadratic.Represent(x.f, x.n)
		if x.count > many {
			wantError(t, fmt.Sprint("Represent ", x.f, x.n), api.ErrLarge, list, e)
		} else {
			want(t, "Represent", e, api.OK)
			want(t, "Represent", len(list), x.count)
		}
	}
}

func TestExamplesOfVectors(t *testing.T) {
	short, e := quadratic.Short(hexagonal(), 1)
	wantResult(t, "Short", short, e, [][]int{{0, 1}, {1, -1}, {1, 0}}, api.OK)
	theta, e := quadratic.Theta(hexagonal(), 4)
	wantResult(t, "Theta", theta, e, []int{1, 6, 0, 6, 6}, api.OK)
	theta, e = quadratic.Theta(fourSquares(), 4)
	wantResult(t, "Theta", theta, e, []int{1, 8, 24, 32, 24}, api.OK)
	primitive, e := quadratic.Primitive(fourSquares(), 4)
	wantResult(t, "Primitive", primitive, e, 16, api.OK)
	list, e := quadratic.Represent(hexagonal(), 3)
	wantResult(t, "Represent", list, e, [][]int{{-2, 1}, {-1, -1}, {-1, 2}, {1, -2}, {1, 1}, {2, -1}}, api.OK)
	list, e = quadratic.Represent(hexagonal(), 2)
	wantResult(t, "Represent without vectors", list, e, [][]int{}, api.OK)
	for _, f := range []api.Form{hexagonal(), rootsA3(), rootsD4(), diagonal(500, 500)} {
		short, e := quadratic.Short(f, 0)
		wantResult(t, "Short up to 0", short, e, [][]int{}, api.OK)
		list, e := quadratic.Represent(f, 0)
		wantResult(t, "Represent of 0", list, e, [][]int{make([]int, f.N)}, api.OK)
		theta, e := quadratic.Theta(f, 0)
		wantResult(t, "Theta up to 0", theta, e, []int{1}, api.OK)
		primitive, e := quadratic.Primitive(f, 0)
		wantResult(t, "Primitive of 0", primitive, e, 0, api.OK)
	}
	short, e = quadratic.Short(diagonal(300, 301), 300)
	wantResult(t, "Short up to the end", short, e, [][]int{{1, 0}}, api.OK)
	list, e = quadratic.Represent(diagonal(301, 300), 300)
	wantResult(t, "Represent at the end", list, e, [][]int{{0, -1}, {0, 1}}, api.OK)
}

func TestErrorsOfVectors(t *testing.T) {
	for _, x := range []struct {
		f api.Form
		n int
		e api.Errno
	}{{hexagonal(), -1, api.ErrRange}, {hexagonal(), 301, api.ErrRange}, {fourSquares(), 301, api.ErrRange}, {fourSquares(), least, api.ErrRange}, {fourSquares(), greatest, api.ErrRange}, {diagonal(501, 1), -1, api.ErrLarge}, {api.Form{}, 301, api.ErrShape}, {diagonal(0, 1), -1, api.ErrForm}} {
		what := fmt.Sprint(x.f, x.n)
		wantError(t, "Short "+what, x.e, all(quadratic.Short(x.f, x.n))...)
		wantError(t, "Represent "+what, x.e, all(quadratic.Represent(x.f, x.n))...)
		wantError(t, "Theta "+what, x.e, all(quadratic.Theta(x.f, x.n))...)
		wantError(t, "Primitive "+what, x.e, all(quadratic.Primitive(x.f, x.n))...)
	}
}
