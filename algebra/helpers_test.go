package algebra_test

import (
	"fmt"
	"math"
	"math/big"
	"reflect"
	"testing"

	"fourfold/algebra"
	"fourfold/api"
)

const (
	least    = math.MinInt
	greatest = math.MaxInt
	coord    = api.MaxCoord
)

var (
	hamilton = api.Algebra{A: -1, B: -1}
	six      = api.Algebra{A: -1, B: 3} // ramified at 2 and 3
	matrices = api.Algebra{A: 1, B: 1}  // splits
)

// want compares comparable results.
func want[T comparable](t *testing.T, what string, got, wanted T) {
	t.Helper()
	if got != wanted {
		t.Errorf("%s: %v, want %v", what, got, wanted)
	}
}

// wantResult compares a result and an error, where a nil slice and an empty one are the same.
func wantResult(t *testing.T, what string, got any, e api.Errno, wanted any, f api.Errno) {
	t.Helper()
	if e != f || fmt.Sprintf("%T %v", got, got) != fmt.Sprintf("%T %v", wanted, wanted) {
		t.Errorf("%s: %v, error %d, want %v, error %d", what, got, e, wanted, f)
	}
}

// wantError checks that there is this error, and that every other result is its zero value.
func wantError(t *testing.T, what string, f api.Errno, results ...any) {
	t.Helper()
	want(t, what, results[len(results)-1].(api.Errno), f)
	for _, r := range results[:len(results)-1] {
		if v := reflect.ValueOf(r); !v.IsZero() && (v.Kind() != reflect.Slice || v.Len() > 0) {
			t.Errorf("%s: %v beside the error", what, r)
		}
	}
}

// all gives all results of a function as a list.
func all(results ...any) []any { return results }

// numbers yields numbers that follow a rule without a pattern, the same ones each time.
type numbers uint64

func (n *numbers) next() uint64 {
	*n += 0x9e3779b97f4a7c15
	z := uint64(*n)
	z = (z ^ z>>30) * 0xbf58476d1ce4e5b9
	z = (z ^ z>>27) * 0x94d049bb133111eb
	return z ^ z>>31
}

// between is a number from a to b.
func (n *numbers) between(a, b int) int { return a + int(n.next()%uint64(b-a+1)) }

// parameter is a number of an algebra, often a small one or one at the end of the range.
func (n *numbers) parameter() int {
	size := n.between(1, api.MaxParam)
	switch n.between(0, 3) {
	case 0:
		size = n.between(1, 10)
	case 1:
		size = n.between(api.MaxParam-2, api.MaxParam)
	}
	return size * (1 - 2*n.between(0, 1))
}

// algebra is an algebra.
func (n *numbers) algebra() api.Algebra { return api.Algebra{A: n.parameter(), B: n.parameter()} }

// quat is an element with numerators up to most, and a denominator up to den.
func (n *numbers) quat(most, den int) api.Quat {
	c := func() int {
		switch n.between(0, 9) {
		case 0:
			return 0
		case 1:
			return most
		case 2:
			return -most
		}
		return n.between(-most, most)
	}
	q := api.Quat{W: c(), X: c(), Y: c(), Z: c(), Den: n.between(1, den)}
	if n.between(0, 9) == 0 {
		q.Den = den
	}
	return q
}

// anyQuat is an element of any size.
func (n *numbers) anyQuat() api.Quat {
	sizes := []int{3, 30, 1000, coord}
	return n.quat(sizes[n.between(0, 3)], sizes[n.between(0, 3)])
}

// rat is a fraction of any size.
func rat(num, den int) *big.Rat { return big.NewRat(int64(num), int64(den)) }

// toRat is the value of a fraction.
func toRat(f api.Frac) *big.Rat { return rat(f.Num, f.Den) }

// wantFrac checks that f is a fraction in lowest terms with a positive denominator.
func wantFrac(t *testing.T, what string, f api.Frac, e api.Errno, wanted *big.Rat) {
	t.Helper()
	if e != api.OK || big.NewInt(int64(f.Num)).Cmp(wanted.Num()) != 0 || big.NewInt(int64(f.Den)).Cmp(wanted.Denom()) != 0 {
		t.Errorf("%s: %v, error %d, want %v", what, f, e, wanted)
	}
}

// slow is an element whose numbers are fractions of any size.
type slow [4]*big.Rat

func slowOf(q api.Quat) slow {
	return slow{rat(q.W, q.Den), rat(q.X, q.Den), rat(q.Y, q.Den), rat(q.Z, q.Den)}
}

// rational is a rational element.
func rational(r *big.Rat) slow { return slow{r, new(big.Rat), new(big.Rat), new(big.Rat)} }

func (p slow) plus(q slow) slow {
	var sum slow
	for i := range p {
		sum[i] = new(big.Rat).Add(p[i], q[i])
	}
	return sum
}

func (p slow) scaled(by *big.Rat) slow {
	var s slow
	for i := range p {
		s[i] = new(big.Rat).Mul(p[i], by)
	}
	return s
}

func (p slow) conjugate() slow {
	return p.scaled(rat(-1, 1)).plus(rational(new(big.Rat).Add(p[0], p[0])))
}

// times is the product by the rules i^2 = A, j^2 = B, j i = -i j alone: the place with the bits x and y is that of i^x j^y.
func (p slow) times(a api.Algebra, q slow) slow {
	product := rational(new(big.Rat))
	for m, c := range p {
		for n, d := range q {
			term := new(big.Rat).Mul(c, d)
			if m&2 != 0 && n&1 != 0 {
				term.Neg(term)
			}
			if m&1 != 0 && n&1 != 0 {
				term.Mul(term, rat(a.A, 1))
			}
			if m&2 != 0 && n&2 != 0 {
				term.Mul(term, rat(a.B, 1))
			}
			product[m^n] = new(big.Rat).Add(product[m^n], term)
		}
	}
	return product
}

// norm is the product with the conjugate, which is rational.
func (p slow) norm(a api.Algebra) *big.Rat { return p.times(a, p.conjugate())[0] }

// quat is the element in lowest terms, and whether it fits.
func (p slow) quat() (api.Quat, bool) {
	den := big.NewInt(1)
	for _, r := range p {
		g := new(big.Int).GCD(nil, nil, den, r.Denom())
		den.Mul(den, new(big.Int).Div(r.Denom(), g))
	}
	most := big.NewInt(coord)
	fits := den.Cmp(most) <= 0
	var n [4]int
	for i, r := range p {
		c := new(big.Int).Mul(r.Num(), new(big.Int).Div(den, r.Denom()))
		fits = fits && c.CmpAbs(most) <= 0
		n[i] = int(c.Int64())
	}
	if !fits {
		return api.Quat{}, false
	}
	return api.Quat{W: n[0], X: n[1], Y: n[2], Z: n[3], Den: int(den.Int64())}, true
}

// wantQuat checks that q is this element in lowest terms, or that there is ErrLarge if it does not fit. It tells whether it does.
func wantQuat(t *testing.T, what string, q api.Quat, e api.Errno, wanted slow) bool {
	t.Helper()
	w, fits := wanted.quat()
	if fits {
		wantResult(t, what, q, e, w, api.OK)
	} else {
		wantResult(t, what, q, e, api.Quat{}, api.ErrLarge)
	}
	return fits
}

// factors are the primes that divide n, which is not 0.
func factors(n int) []int {
	if n < 0 {
		n = -n
	}
	var primes []int
	for p := 2; n > 1; p++ {
		if n%p == 0 {
			primes = append(primes, p)
		}
		for n%p == 0 {
			n /= p
		}
	}
	return primes
}

// places are the primes at which an algebra is ramified, and whether it is at infinity.
func places(t *testing.T, a api.Algebra) ([]int, bool) {
	t.Helper()
	primes, infinite, e := algebra.Ramified(a)
	want(t, fmt.Sprint("Ramified ", a), e, api.OK)
	return primes, infinite
}

// splits reports whether an algebra is ramified nowhere.
func splits(t *testing.T, a api.Algebra) bool {
	t.Helper()
	primes, infinite := places(t, a)
	return len(primes) == 0 && !infinite
}
