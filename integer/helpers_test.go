package integer_test

import (
	"math"
	"math/big"
	"reflect"
	"slices"
	"testing"

	"fourfold/api"
	"fourfold/integer"
)

const (
	least    = math.MinInt
	greatest = math.MaxInt
	limit    = api.MaxModulus
)

// beside are ints at the ends of all ranges.
var beside = []int{least, least + 1, -limit - 1, -limit, -7, -1, 0, 1, 2, 3, 8, limit, limit + 1, greatest - 1, greatest}

// words is an integer with these words, the lowest first.
func words(neg bool, w ...uint32) api.Int { return api.Int{Neg: neg, Words: w} }

// toBig is the value of x, whatever its representation.
func toBig(x api.Int) *big.Int {
	n := new(big.Int)
	for _, word := range slices.Backward(x.Words) {
		n.Lsh(n, 32).Add(n, new(big.Int).SetUint64(uint64(word)))
	}
	if x.Neg {
		n.Neg(n)
	}
	return n
}

// fromBig is n in normal form.
func fromBig(n *big.Int) api.Int {
	x := api.Int{Neg: n.Sign() < 0}
	rest := new(big.Int).Abs(n)
	for rest.Sign() > 0 {
		x.Words = append(x.Words, uint32(rest.Uint64()))
		rest.Rsh(rest, 32)
	}
	return x
}

// sameInt compares all fields: results are in normal form.
func sameInt(x, y api.Int) bool { return x.Neg == y.Neg && slices.Equal(x.Words, y.Words) }

// wantInt checks that x is the normal form of n.
func wantInt(t *testing.T, what string, x api.Int, n *big.Int) {
	t.Helper()
	if !sameInt(x, fromBig(n)) {
		t.Errorf("%s: %v, want %v", what, x, n)
	}
}

// want compares comparable results.
func want[T comparable](t *testing.T, what string, got, wanted T) {
	t.Helper()
	if got != wanted {
		t.Errorf("%s: %v, want %v", what, got, wanted)
	}
}

// wantList compares lists, where nil and empty are the same.
func wantList[T any](t *testing.T, what string, got, wanted []T) {
	t.Helper()
	if len(got) == 0 && len(wanted) == 0 {
		return
	}
	if !reflect.DeepEqual(got, wanted) {
		t.Errorf("%s: %v, want %v", what, got, wanted)
	}
}

// copyOf is x in memory of its own.
func copyOf(x api.Int) api.Int {
	return api.Int{Neg: x.Neg, Words: append(make([]uint32, 0, len(x.Words)), x.Words...)}
}

// numbers yields numbers that follow a rule without a pattern, the same ones each time.
type numbers uint64

func (n *numbers) next() uint64 {
	*n += 0x9e3779b97f4a7c15
	z := uint64(*n)
	z = (z ^ z>>30) * 0xbf58476d1ce4e5b9
	z = (z ^ z>>27) * 0x94d049bb133111eb
	return z ^ z>>31
}

// below is a number from 0 to n - 1.
func (n *numbers) below(m int) int { return int(n.next() % uint64(m)) }

// between is a number from a to b.
func (n *numbers) between(a, b int) int { return a + n.below(b-a+1) }

// integer is an integer of up to most words, many of which are at the ends of their range.
func (n *numbers) integer(most int) api.Int {
	w := make([]uint32, n.below(most+1))
	for i := range w {
		switch n.below(6) {
		case 0:
			w[i] = 0
		case 1:
			w[i] = math.MaxUint32
		case 2:
			w[i] = 1 << 31
		case 3:
			w[i] = 1
		default:
			w[i] = uint32(n.next())
		}
	}
	return api.Int{Neg: n.below(2) == 1, Words: w}
}

// someIntegers are integers in all representations.
func someIntegers() []api.Int {
	list := []api.Int{
		{}, words(true), words(false, 0), words(true, 0, 0), words(false, 1), words(true, 1), words(true, 1, 0),
		words(false, 2), words(false, 7, 0, 0), words(true, 7), words(false, math.MaxUint32), words(true, math.MaxUint32, 0),
		words(false, 0, 1), words(true, 0, 1), words(false, math.MaxUint32, math.MaxUint32), words(true, 0, 0, 1),
		words(false, 0, 1<<31), words(true, 0, 1<<31), words(true, 1, 1<<31), words(false, math.MaxUint32, 1<<31-1),
		words(false, 0, 0, 1<<31), words(false, math.MaxUint32, 0, 1<<31), words(false, 0, math.MaxUint32, math.MaxUint32, 0),
	}
	var n numbers
	for range 30 {
		list = append(list, n.integer(7))
	}
	for _, k := range beside {
		list = append(list, integer.Of(k))
	}
	return list
}

// slowPrime reports whether n has just two divisors.
func slowPrime(n int) bool {
	for d := 2; d < n; d++ {
		if n%d == 0 {
			return false
		}
	}
	return n > 1
}

// slowFactors are the prime factors of n, each as often as it divides.
func slowFactors(n int) []int {
	var factors []int
	for p := 2; p*p <= n; p++ {
		for n%p == 0 {
			factors = append(factors, p)
			n /= p
		}
	}
	if n > 1 {
		factors = append(factors, n)
	}
	return factors
}
