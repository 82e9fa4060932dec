package rotation_test

import (
	"fmt"
	"math"
	"math/big"
	"reflect"
	"slices"
	"testing"

	"fourfold/api"
	"fourfold/rotation"
)

const (
	least    = math.MinInt
	greatest = math.MaxInt
	coord    = api.MaxCoord
	param    = api.MaxParam
	mostNorm = api.MaxHurwitz
)

// want compares comparable results.
func want[T comparable](t *testing.T, what string, got, wanted T) {
	t.Helper()
	if got != wanted {
		t.Errorf("%s: %v, want %v", what, got, wanted)
	}
}

// same compares results, where a nil slice and an empty one are the same.
func same(a, b any) bool {
	return fmt.Sprintf("%T %v", a, a) == fmt.Sprintf("%T %v", b, b)
}

// wantResult compares a result and an error.
func wantResult(t *testing.T, what string, got any, e api.Errno, wanted any, f api.Errno) {
	t.Helper()
	if e != f || !same(got, wanted) {
		t.Errorf("%s: %v, error %d, want %v, error %d", what, got, e, wanted, f)
	}
}

// wantError checks that there is this error, and that every other result is its zero value.
func wantError(t *testing.T, what string, f api.Errno, results ...any) {
	t.Helper()
	last := len(results) - 1
	want(t, what, results[last].(api.Errno), f)
	for _, r := range results[:last] {
		if v := reflect.ValueOf(r); !v.IsZero() && (v.Kind() != reflect.Slice || v.Len() > 0) {
			t.Errorf("%s: %v beside the error", what, r)
		}
	}
}

// made is the result of a function that has to be OK.
func made[T any](t *testing.T) func(result T, e api.Errno) T {
	return func(result T, e api.Errno) T {
		t.Helper()
		if e != api.OK {
			t.Fatalf("no result, but error %d", e)
		}
		return result
	}
}

// all gives all results of a function as a list.
func all(results ...any) []any { return results }

// over is an element.
func over(den, w, x, y, z int) api.Quat { return api.Quat{W: w, X: x, Y: y, Z: z, Den: den} }

// whole is an element with integers.
func whole(w, x, y, z int) api.Quat { return over(1, w, x, y, z) }

// half is an element with halves.
func half(w, x, y, z int) api.Quat { return over(2, w, x, y, z) }

// exact is a quaternion with fractions of any size.
type exact [4]*big.Rat

// of is the quaternion of an element.
func of(q api.Quat) exact {
	var x exact
	for i, n := range []int{q.W, q.X, q.Y, q.Z} {
		x[i] = big.NewRat(int64(n), int64(q.Den))
	}
	return x
}

// table has the products of 1, i, j and k: the number of the product, and its sign.
func table() [4][4][2]int {
	return [4][4][2]int{
		{{0, 1}, {1, 1}, {2, 1}, {3, 1}},
		{{1, 1}, {0, -1}, {3, 1}, {2, -1}},
		{{2, 1}, {3, -1}, {0, -1}, {1, 1}},
		{{3, 1}, {2, 1}, {1, -1}, {0, -1}},
	}
}

// times is the product.
func (x exact) times(y exact) exact {
	p := exact{new(big.Rat), new(big.Rat), new(big.Rat), new(big.Rat)}
	products := table()
	for i, a := range x {
		for j, b := range y {
			term := new(big.Rat).Mul(a, b)
			place, sign := products[i][j][0], products[i][j][1]
			p[place].Add(p[place], term.Mul(term, big.NewRat(int64(sign), 1)))
		}
	}
	return p
}

// minus is the difference.
func (x exact) minus(y exact) exact {
	var d exact
	for i := range x {
		d[i] = new(big.Rat).Sub(x[i], y[i])
	}
	return d
}

// norm is the norm.
func (x exact) norm() *big.Rat {
	sum := new(big.Rat)
	for _, a := range x {
		sum.Add(sum, new(big.Rat).Mul(a, a))
	}
	return sum
}

// inverse is the inverse, for x other than 0.
func (x exact) inverse() exact {
	by := new(big.Rat).Inv(x.norm())
	var y exact
	for i, a := range x {
		y[i] = new(big.Rat).Mul(a, by)
		if i > 0 {
			y[i].Neg(y[i])
		}
	}
	return y
}

// isHurwitz reports whether x is a Hurwitz quaternion.
func (x exact) isHurwitz() bool {
	integers, halves := 0, 0
	for _, a := range x {
		switch twice := new(big.Rat).Add(a, a); {
		case a.IsInt():
			integers++
		case twice.IsInt():
			halves++
		}
	}
	return integers == 4 || halves == 4
}

// quat is the element, in lowest terms.
func (x exact) quat() api.Quat {
	den := big.NewInt(1)
	for _, a := range x {
		g := new(big.Int).GCD(nil, nil, den, a.Denom())
		den.Mul(den, new(big.Int).Div(a.Denom(), g))
	}
	var n [4]int
	for i, a := range x {
		n[i] = int(new(big.Rat).Mul(a, new(big.Rat).SetInt(den)).Num().Int64())
	}
	return over(int(den.Int64()), n[0], n[1], n[2], n[3])
}

// compare orders by the coordinates.
func (x exact) compare(y exact) int {
	for i := range x {
		if c := x[i].Cmp(y[i]); c != 0 {
			return c
		}
	}
	return 0
}

// product is the product of elements, in lowest terms.
func product(list ...api.Quat) api.Quat {
	p := of(whole(1, 0, 0, 0))
	for _, q := range list {
		p = p.times(of(q))
	}
	return p.quat()
}

// quotient is y^-1 x.
func quotient(y, x api.Quat) exact { return of(y).inverse().times(of(x)) }

// norm is the norm of a Hurwitz quaternion.
func norm(q api.Quat) int { return int(of(q).norm().Num().Int64()) }

// ascending orders elements by their coordinates.
func ascending(a, b api.Quat) int { return of(a).compare(of(b)) }

// commonDivisor is the greatest common divisor.
func commonDivisor(list ...int) int {
	g := new(big.Int)
	for _, n := range list {
		g.GCD(nil, nil, g, new(big.Int).Abs(big.NewInt(int64(n))))
	}
	return int(g.Int64())
}

// reduced is the reduced quaternion of an element other than 0.
func reduced(q api.Quat) api.Quat {
	g := commonDivisor(q.W, q.X, q.Y, q.Z)
	for _, n := range []int{q.Z, q.Y, q.X, q.W} {
		if n != 0 {
			g = max(g, -g)
			if n < 0 {
				g = -g
			}
		}
	}
	return whole(q.W/g, q.X/g, q.Y/g, q.Z/g)
}

// squares is the sum of the squares of the numerators.
func squares(q api.Quat) int { return q.W*q.W + q.X*q.X + q.Y*q.Y + q.Z*q.Z }

// quats are all Hurwitz quaternions of norm n, ascending, by trying all numbers.
func quats(n int) []api.Quat {
	r := 0
	for r*r < 4*n {
		r++
	}
	var list []api.Quat
	for w := -r; w <= r; w++ {
		for x := -r; x <= r; x++ {
			for y := -r; y <= r; y++ {
				for z := -r; z <= r; z++ {
					q := half(w, x, y, z)
					if squares(q) == 4*n && of(q).isHurwitz() {
						list = append(list, of(q).quat())
					}
				}
			}
		}
	}
	return list
}

// numbers yields numbers that follow a rule without a pattern, the same ones each time.
type numbers uint64

func (n *numbers) next() uint64 {
	*n += 0x9e3779b97f4a7c15
	z := uint64(*n)
	z = (z ^ z>>30) * 0xbf58476d1ce4e5b9
	z = (z ^ z>>27) * 0x94d049bb133111eb
	return z ^ z>>31
}

// between is a number from a to b.
func (n *numbers) between(a, b int) int { return a + int(n.next()%uint64(b-a+1)) }

// one is an element of a list.
func one[T any](n *numbers, list ...T) T { return list[n.between(0, len(list)-1)] }

// quat is an element with numbers up to size.
func (n *numbers) quat(size int) api.Quat {
	return over(n.between(1, size), n.between(-size, size), n.between(-size, size), n.between(-size, size), n.between(-size, size))
}

// some is an element other than 0 with numbers up to size, often with some zeros.
func (n *numbers) some(size int) api.Quat {
	for {
		q := n.quat(size)
		for _, c := range []*int{&q.W, &q.X, &q.Y, &q.Z} {
			if n.between(0, 3) == 0 {
				*c = 0
			}
		}
		if squares(q) != 0 {
			return q
		}
	}
}

// hurwitz is a Hurwitz quaternion with coordinates up to size, in lowest terms.
func (n *numbers) hurwitz(size int) api.Quat {
	if n.between(0, 1) == 0 {
		q := n.quat(size)
		q.Den = 1
		return q
	}
	odd := func() int { return 2*n.between(-size, size-1) + 1 }
	return half(odd(), odd(), odd(), odd())
}

// filled is a Hurwitz quaternion other than 0.
func (n *numbers) filled(size int) api.Quat {
	for {
		if q := n.hurwitz(size); squares(q) != 0 {
			return q
		}
	}
}

// rewritten is the same element with a greater denominator.
func (n *numbers) rewritten(q api.Quat) api.Quat {
	by := n.between(1, 9)
	return over(q.Den*by, q.W*by, q.X*by, q.Y*by, q.Z*by)
}

// unit is a unit.
func (n *numbers) unit() api.Quat { return one(n, rotation.Units()...) }

// ofNorm is a Hurwitz quaternion of this norm, which is at most MaxIdeal.
func (n *numbers) ofNorm(t *testing.T, size int) api.Quat {
	t.Helper()
	return product(one(n, made[[]api.Quat](t)(rotation.OfNorm(size))...), n.unit())
}

// isPrime reports whether n is a prime.
func isPrime(n int) bool {
	return n > 1 && big.NewInt(int64(n)).ProbablyPrime(20)
}

// canonical is the greatest of the associates.
func canonical(q api.Quat) api.Quat {
	var list []api.Quat
	for _, u := range quats(1) {
		list = append(list, product(q, u))
	}
	return slices.MaxFunc(list, ascending)
}

// sumOfSquares is a quaternion with integers, from the greatest one on, that has this norm.
func sumOfSquares(n int) api.Quat {
	for w := int(math.Sqrt(float64(n))); w > 0; w-- {
		rest := n - w*w
		for x := 0; x*x <= rest; x++ {
			for y := 0; y <= x && x*x+y*y <= rest; y++ {
				for z := 0; z <= y && x*x+y*y+z*z <= rest; z++ {
					if x*x+y*y+z*z == rest {
						return whole(w, x, y, z)
					}
				}
			}
		}
	}
	return api.Quat{}
}
