package integer_test

import (
	"fmt"
	"slices"
	"testing"

	"fourfold/api"
	"fourfold/integer"
)

// The tests of this file are those of P1.8 and P1.9.

func TestRingWithAnOrder(t *testing.T) {
	n := numbers(6)
	zero, one := integer.Of(0), integer.Of(1)
	for range 3000 {
		x, y, z := integer.Normal(n.integer(5)), integer.Normal(n.integer(5)), integer.Normal(n.integer(5))
		for _, law := range [][2]api.Int{
			{integer.Add(x, y), integer.Add(y, x)},
			{integer.Mul(x, y), integer.Mul(y, x)},
			{integer.Add(integer.Add(x, y), z), integer.Add(x, integer.Add(y, z))},
			{integer.Mul(integer.Mul(x, y), z), integer.Mul(x, integer.Mul(y, z))},
			{integer.Mul(x, integer.Add(y, z)), integer.Add(integer.Mul(x, y), integer.Mul(x, z))},
			{integer.Add(x, zero), x}, {integer.Mul(x, one), x}, {integer.Sub(x, x), zero}, {integer.Add(integer.Sub(x, y), y), x},
		} {
			if !sameInt(law[0], law[1]) {
				t.Fatalf("a law of rings does not hold for %v, %v, %v", x, y, z)
			}
		}
		want(t, "the order of the other way", integer.Cmp(x, y), -integer.Cmp(y, x))
		want(t, "the order of sums", integer.Cmp(integer.Add(x, z), integer.Add(y, z)), integer.Cmp(x, y))
		want(t, "the order of multiples", integer.Cmp(integer.Mul(x, z), integer.Mul(y, z)), integer.Cmp(x, y)*integer.Cmp(z, zero))
	}
}

func TestLawsOfPowers(t *testing.T) {
	n := numbers(7)
	for range 3000 {
		a, m := n.between(-limit, limit), n.between(1, limit)
		i, j := n.below(greatest/2), n.below(greatest/2)
		both, _ := integer.Power(a, i+j, m)
		first, _ := integer.Power(a, i, m)
		second, _ := integer.Power(a, j, m)
		want(t, "a power to a sum", both, first*second%m)
	}
	for _, p := range []int{2, 3, 101, 65537, 999999937} {
		for range 50 {
			a := n.between(-limit, limit)
			if a%p != 0 {
				x, _ := integer.Power(a, p-1, p)
				want(t, fmt.Sprint(a, " to the power ", p-1), x, 1)
			}
		}
	}
}

func TestLawsOfTheJacobiSymbol(t *testing.T) {
	symbol := func(a, n int) int {
		s, e := integer.Jacobi(a, n)
		want(t, "Jacobi", e, api.OK)
		return s
	}
	n := numbers(8)
	for range 5000 {
		a, b := n.between(-limit, limit), n.between(-limit, limit)
		k, m := 2*n.below(15000)+1, 2*n.below(15000)+1
		want(t, "the symbol of a product", symbol(a*b, k), symbol(a, k)*symbol(b, k))
		want(t, "the symbol at a product", symbol(a, k*m), symbol(a, k)*symbol(a, m))
		k, m = 2*n.below(limit/2)+1, 2*n.below(limit/2)+1
		if gcdOf(k, m) == 1 {
			product := 1
			if k%4 == 3 && m%4 == 3 {
				product = -1
			}
			want(t, fmt.Sprint("reciprocity of ", k, " and ", m), symbol(k, m)*symbol(m, k), product)
		}
	}
}

func TestWhatIsProvedIsAPrime(t *testing.T) {
	var proved []api.Step
	for n := 2; n < 250 && len(proved) < api.MaxProof-1; n++ {
		primes := slices.Compact(slowFactors(n - 1))
		found := api.Step{}
		for root := range n + 1 {
			s := api.Step{N: n, Root: root, Primes: primes}
			if integer.CheckPrime(n, append(slices.Clone(proved), s)) == api.OK {
				found = s
			}
		}
		want(t, fmt.Sprint("a proof for ", n), found.N == n, slowPrime(n))
		if found.N == n {
			proved = append(proved, found)
		}
	}
}

// places are the primes that divide 2 a b, and 0.
func places(a, b int) []int {
	list := []int{0, 2}
	for _, n := range []int{size(a), size(b)} {
		powers, _ := integer.Factor(n)
		for _, f := range powers {
			list = append(list, f.Prime)
		}
	}
	slices.Sort(list)
	return slices.Compact(list)
}

// symbolAt is the Hilbert symbol.
func symbolAt(t *testing.T, a, b, p int) int {
	t.Helper()
	s, e := integer.Hilbert(a, b, p)
	want(t, fmt.Sprint("Hilbert ", a, b, p), e, api.OK)
	return s
}

func TestProductFormula(t *testing.T) {
	n := numbers(9)
	for k := range 3000 {
		most := []int{20, 1000, limit}[k%3]
		a, b := n.between(-most, most), n.between(-most, most)
		if a == 0 || b == 0 {
			continue
		}
		product := 1
		for _, p := range places(a, b) {
			s := symbolAt(t, a, b, p)
			product *= s
			want(t, "the symbol of b and a", symbolAt(t, b, a, p), s)
			want(t, "the symbol of a and -a", symbolAt(t, a, -a, p), 1)
		}
		want(t, fmt.Sprint("the product of all symbols of ", a, " and ", b), product, 1)
	}
}

func TestProductsInTheHilbertSymbol(t *testing.T) {
	n := numbers(10)
	for range 3000 {
		a, b, c := n.between(-1000, 1000), n.between(-1000, 1000), n.between(-limit, limit)
		if a == 0 || b == 0 || c == 0 {
			continue
		}
		for _, p := range places(a*b, c) {
			product := symbolAt(t, a, c, p) * symbolAt(t, b, c, p)
			want(t, "the symbol of a product", symbolAt(t, a*b, c, p), product)
			want(t, "the symbol with a product", symbolAt(t, c, a*b, p), product)
		}
	}
}

func TestSolutionsInIntegers(t *testing.T) {
	n := numbers(11)
	for range 3000 {
		x, y, z, a := n.between(-30, 30), n.between(1, 3), n.between(-500, 500), n.between(-9000, 9000)
		rest := z*z - a*x*x
		if a == 0 || rest == 0 || rest%(y*y) != 0 {
			continue
		}
		b := rest / (y * y)
		for _, p := range places(a, b) {
			want(t, fmt.Sprint("the symbol of ", a, " and ", b, " at ", p), symbolAt(t, a, b, p), 1)
		}
	}
}
