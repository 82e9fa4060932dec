package integer_test

import (
	"fmt"
	"math"
	"math/big"
	"reflect"
	"testing"

	"fourfold/api"
	"fourfold/integer"
)

// The tests of this file are those of P1.1.

func TestOfAndSmall(t *testing.T) {
	for _, n := range beside {
		x := integer.Of(n)
		wantInt(t, "Of", x, big.NewInt(int64(n)))
		for _, y := range []api.Int{x, {Neg: x.Neg, Words: append(copyOf(x).Words, 0, 0)}} {
			m, ok := integer.Small(y)
			want(t, "Small of an int", ok, true)
			want(t, "its value", m, n)
		}
	}
	for _, x := range []api.Int{{}, words(true), words(true, 0), words(false, 0, 0, 0)} {
		m, ok := integer.Small(x)
		want(t, "Small of 0", ok, true)
		want(t, "its value", m, 0)
	}
	for _, x := range []api.Int{words(false, 0, 1<<31), words(true, 1, 1<<31), words(false, 0, 0, 1), words(true, 0, 0, 1, 0), words(false, math.MaxUint32, math.MaxUint32)} {
		m, ok := integer.Small(x)
		want(t, fmt.Sprint("Small of ", x), ok, false)
		want(t, "its value", m, 0)
	}
}

func TestNormal(t *testing.T) {
	for _, x := range someIntegers() {
		wantInt(t, "Normal", integer.Normal(x), toBig(x))
	}
}

func TestSumsAndProducts(t *testing.T) {
	for _, x := range someIntegers() {
		for _, y := range someIntegers() {
			a, b := toBig(x), toBig(y)
			wantInt(t, fmt.Sprint("Add ", a, b), integer.Add(x, y), new(big.Int).Add(a, b))
			wantInt(t, fmt.Sprint("Sub ", a, b), integer.Sub(x, y), new(big.Int).Sub(a, b))
			wantInt(t, fmt.Sprint("Mul ", a, b), integer.Mul(x, y), new(big.Int).Mul(a, b))
			want(t, fmt.Sprint("Cmp ", a, b), integer.Cmp(x, y), a.Cmp(b))
			wantInt(t, fmt.Sprint("Gcd ", a, b), integer.Gcd(x, y), new(big.Int).GCD(nil, nil, new(big.Int).Abs(a), new(big.Int).Abs(b)))
		}
	}
}

// wantDivision checks DivMod against the rule 0 <= r < |y|, which is that of big.Int.DivMod.
func wantDivision(t *testing.T, x, y api.Int) {
	t.Helper()
	a, b := toBig(x), toBig(y)
	q, r, e := integer.DivMod(x, y)
	if b.Sign() == 0 {
		want(t, "DivMod by 0", e, api.ErrZero)
		if !sameInt(q, api.Int{}) || !sameInt(r, api.Int{}) {
			t.Errorf("DivMod by 0: %v, %v beside the error", q, r)
		}
		return
	}
	quotient, rest := new(big.Int).DivMod(a, b, new(big.Int))
	want(t, "DivMod", e, api.OK)
	wantInt(t, fmt.Sprint("quotient of ", a, b), q, quotient)
	wantInt(t, fmt.Sprint("remainder of ", a, b), r, rest)
}

func TestDivMod(t *testing.T) {
	for _, x := range someIntegers() {
		for _, y := range someIntegers() {
			wantDivision(t, x, y)
		}
	}
	// Words at the ends of their range lead to the rare steps of a long division.
	n := numbers(1)
	for range 20000 {
		wantDivision(t, n.integer(9), n.integer(5))
	}
	for _, x := range [][4]int{{-7, 2, -4, 1}, {7, -2, -3, 1}, {-7, -2, 4, 1}, {-8, 2, -4, 0}} {
		q, r, e := integer.DivMod(integer.Of(x[0]), integer.Of(x[1]))
		want(t, "DivMod", e, api.OK)
		wantInt(t, "quotient", q, big.NewInt(int64(x[2])))
		wantInt(t, "remainder", r, big.NewInt(int64(x[3])))
	}
}

func TestRoot(t *testing.T) {
	list := someIntegers()
	for k := range 1000 {
		list = append(list, integer.Of(k))
	}
	for _, x := range someIntegers() { // squares, and the numbers beside them
		square := integer.Mul(x, x)
		list = append(list, square, integer.Sub(square, integer.Of(1)), integer.Add(square, integer.Of(1)))
	}
	for _, x := range list {
		n := toBig(x)
		r, e := integer.Root(x)
		if n.Sign() < 0 {
			want(t, fmt.Sprint("Root of ", n), e, api.ErrRange)
			wantInt(t, "beside the error", r, new(big.Int))
			continue
		}
		want(t, fmt.Sprint("Root of ", n), e, api.OK)
		wantInt(t, fmt.Sprint("Root of ", n), r, new(big.Int).Sqrt(n))
	}
}

func TestLargeIntegers(t *testing.T) {
	n := numbers(2)
	for range 20 {
		x, y := n.integer(120), n.integer(60)
		wantInt(t, "Mul", integer.Mul(x, y), new(big.Int).Mul(toBig(x), toBig(y)))
		wantDivision(t, x, y)
		common := integer.Gcd(integer.Mul(x, y), integer.Mul(y, integer.Add(x, integer.Of(1))))
		wantInt(t, "Gcd", common, new(big.Int).Abs(toBig(y)))
		r, e := integer.Root(integer.Mul(x, x))
		want(t, "Root", e, api.OK)
		wantInt(t, "Root", r, new(big.Int).Abs(toBig(x)))
	}
}

// wantGcd checks Gcd against that of package big, for both orders and signs.
func wantGcd(t *testing.T, x, y api.Int) {
	t.Helper()
	wanted := new(big.Int).GCD(nil, nil, new(big.Int).Abs(toBig(x)), new(big.Int).Abs(toBig(y)))
	wantInt(t, fmt.Sprint("Gcd ", toBig(x), toBig(y)), integer.Gcd(x, y), wanted)
	wantInt(t, fmt.Sprint("Gcd ", toBig(y), toBig(x)), integer.Gcd(y, integer.Sub(api.Int{}, x)), wanted)
}

func TestGreatestCommonDivisors(t *testing.T) {
	n := numbers(3)
	for range 3000 {
		x, y, z := n.integer(7), n.integer(7), n.integer(4)
		wantGcd(t, x, y)
		wantGcd(t, integer.Mul(x, z), integer.Mul(y, z))
		wantGcd(t, integer.Add(integer.Mul(x, y), z), y)                 // a long quotient
		wantGcd(t, x, integer.Add(x, z))                                 // the same first words
		wantGcd(t, integer.Mul(x, x), integer.Add(integer.Mul(x, y), z)) // lengths that differ
	}
	for range 30 {
		x, y, z := n.integer(90), n.integer(100), n.integer(40)
		wantGcd(t, integer.Mul(x, z), integer.Mul(y, z))
	}
	// All quotients are 1 for Fibonacci's numbers, and great ones for the others.
	x, y := integer.Of(0), integer.Of(1)
	for range 1000 {
		wantGcd(t, x, y)
		x, y = y, integer.Add(x, y)
	}
	x, y = integer.Of(0), integer.Of(1)
	for k := range 60 {
		wantGcd(t, x, y)
		by := integer.Of([]int{1, math.MaxUint32, 1 << 32, math.MaxInt, 2}[k%5])
		x, y = y, integer.Add(x, integer.Mul(y, by))
	}
}

func TestLongDivisions(t *testing.T) {
	n := numbers(4)
	for range 3000 {
		x, y := n.integer(40), n.integer(30)
		wantInt(t, "Mul", integer.Mul(x, y), new(big.Int).Mul(toBig(x), toBig(y)))
		wantDivision(t, x, y)
		product := integer.Mul(x, y)
		for _, k := range []int{-1, 0, 1} { // next to a multiple
			wantDivision(t, integer.Add(product, integer.Of(k)), y)
		}
	}
}

// extreme is an integer of up to most pairs of words, nearly all of which are next to the ends of their range, or to its middle.
func (n *numbers) extreme(most int) api.Int {
	var w []uint32
	for range n.between(1, most) {
		pair := []uint64{0, math.MaxUint64, 1 << 63}[n.below(3)] + uint64(n.between(0, 4)-2)
		if n.below(6) == 0 {
			pair = n.next()
		}
		w = append(w, uint32(pair), uint32(pair>>32))
	}
	return api.Int{Words: w}
}

// The quotients of the first pairs are wrong, or cannot be found at all, only where pairs are next to the ends of their range.
func TestDivisionsOfExtremes(t *testing.T) {
	n := numbers(5)
	for range 40000 {
		x, y, z := n.extreme(4), n.extreme(4), n.extreme(3)
		product := integer.Mul(x, y)
		wantDivision(t, x, y)
		wantDivision(t, product, y)
		wantDivision(t, integer.Add(product, z), y)
		wantDivision(t, integer.Sub(product, z), y)
		wantDivision(t, integer.Add(product, integer.Sub(y, integer.Of(1))), y)
	}
}

// operations are the functions of integers, each with all its results.
var operations = []func(x, y api.Int) []api.Int{
	func(x, y api.Int) []api.Int { return []api.Int{integer.Normal(x)} },
	func(x, y api.Int) []api.Int { return []api.Int{integer.Add(x, y)} },
	func(x, y api.Int) []api.Int { return []api.Int{integer.Sub(x, y)} },
	func(x, y api.Int) []api.Int { return []api.Int{integer.Mul(x, y)} },
	func(x, y api.Int) []api.Int { return []api.Int{integer.Gcd(x, y)} },
	func(x, y api.Int) []api.Int { r, _ := integer.Root(x); return []api.Int{r} },
	func(x, y api.Int) []api.Int { q, r, _ := integer.DivMod(x, y); return []api.Int{q, r} },
	func(x, y api.Int) []api.Int { integer.Cmp(x, y); integer.Small(x); integer.Format(x); return nil },
}

// overwrite changes all the memory that x can reach.
func overwrite(x api.Int) {
	w := x.Words[:cap(x.Words)]
	for i := range w {
		w[i] ^= 0xaaaaaaaa
	}
}

// Nothing is written into an argument, and results share no memory with arguments or each other (R3).
func TestMemoryOfIntegers(t *testing.T) {
	for _, a := range someIntegers() {
		for _, b := range someIntegers() {
			for k, operation := range operations {
				x, y := copyOf(a), copyOf(b)
				results := operation(x, y)
				if !reflect.DeepEqual(x, copyOf(a)) || !reflect.DeepEqual(y, copyOf(b)) {
					t.Fatalf("operation %d has changed %v or %v", k, a, b)
				}
				for i, r := range results {
					overwrite(r)
					results[i] = api.Int{}
					again := operation(copyOf(a), copyOf(b))
					for j := i + 1; j < len(results); j++ {
						if !sameInt(results[j], again[j]) {
							t.Fatalf("operation %d: its results of %v and %v share memory", k, a, b)
						}
					}
				}
				if !reflect.DeepEqual(x, copyOf(a)) || !reflect.DeepEqual(y, copyOf(b)) {
					t.Fatalf("operation %d: a result shares the memory of %v or %v", k, a, b)
				}
			}
		}
	}
}
