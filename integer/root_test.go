package integer_test

import (
	"fmt"
	"slices"
	"testing"

	"fourfold/api"
	"fourfold/integer"
)

// The tests of this file are those of P1.7.

func TestRootsOfSmallModuli(t *testing.T) {
	for q := 2; q <= 750; q++ {
		powers := powersOf(q)
		if len(powers) > 1 {
			continue
		}
		p, k := powers[0].Prime, powers[0].Exponent
		roots := make([][]int, q)
		for x := range q {
			roots[x*x%q] = append(roots[x*x%q], x)
		}
		for a := range q {
			for _, same := range []int{a, a - q, a + 7*q} {
				l, e := integer.Roots(same, p, k)
				want(t, "Roots", e, api.OK)
				wantList(t, fmt.Sprint("Roots ", same, p, k), l, roots[a])
			}
			for _, r := range roots[a] {
				if p > 2 && r%p != 0 {
					wantLift(t, a, p, k, r)
					wantLift(t, a-q, p, k, r%p-3*p)
				}
			}
		}
	}
}

// wantLift checks that Lift finds the residue that is a root and congruent to r modulo p.
func wantLift(t *testing.T, a, p, k, r int) {
	t.Helper()
	q := 1
	for range k {
		q *= p
	}
	x, e := integer.Lift(a, p, k, r)
	want(t, fmt.Sprint("Lift ", a, p, k, r), e, api.OK)
	if x < 0 || x >= q || mod(x, p) != mod(r, p) || mod(x*x, q) != mod(a, q) {
		t.Errorf("Lift(%d, %d, %d, %d) = %d", a, p, k, r, x)
	}
}

func TestRootsOfLargeModuli(t *testing.T) {
	n := numbers(5)
	for _, x := range [][2]int{{2, 29}, {3, 18}, {5, 12}, {7, 10}, {17, 7}, {257, 3}, {31607, 2}, {65537, 1}, {469762049, 1}, {754974721, 1}, {998244353, 1}, {999999893, 1}, {999999929, 1}, {999999937, 1}} {
		p, k, q := x[0], x[1], 1
		for range k {
			q *= p
		}
		for range 60 {
			r := n.between(1, q-1)
			if r%p == 0 {
				continue
			}
			a := r * r % q
			l, e := integer.Roots(a, p, k)
			want(t, "Roots", e, api.OK)
			wanted := []int{r, q - r}
			if p == 2 {
				wanted = []int{r, q - r, (r + q/2) % q, (q - r + q/2) % q}
			}
			slices.Sort(wanted)
			wantList(t, fmt.Sprint("Roots ", a, p, k), l, wanted)
			if p > 2 {
				wantLift(t, a, p, k, r%p)
				wantLift(t, a, p, k, -r)
			}
		}
	}
	for _, a := range []int{least, greatest, 2, 5, -1} { // at 998244353, the residues of 2, 5 and -1 are 1, -1 and 1
		l, e := integer.Roots(a, 998244353, 1)
		want(t, "Roots", e, api.OK)
		symbol, _ := integer.Legendre(a, 998244353)
		want(t, fmt.Sprint("how many roots has ", a), len(l), 1+symbol)
		for _, x := range l {
			want(t, "a root's square", mod(x*x, 998244353), mod(a, 998244353))
		}
	}
}

func TestNumbersOfRoots(t *testing.T) {
	for _, x := range []struct {
		a, p, k, count int
		e              api.Errno
	}{
		{0, 997, 2, 997, api.OK}, {0, 1009, 2, 0, api.ErrLarge}, {0, 997, 3, 997, api.OK}, {0, 31607, 2, 0, api.ErrLarge}, {31607 * 31607, 31607, 2, 0, api.ErrLarge}, {31607, 31607, 2, 0, api.OK},
		{4 * 499 * 499, 499, 3, 998, api.OK}, {4 * 503 * 503, 503, 3, 0, api.ErrLarge}, {2 * 503 * 503, 503, 3, 0, api.ErrLarge}, {5 * 503 * 503, 503, 3, 0, api.OK},
		{0, 2, 18, 512, api.OK}, {0, 2, 19, 512, api.OK}, {0, 2, 20, 0, api.ErrLarge}, {1 << 14, 2, 20, 512, api.OK}, {1 << 16, 2, 20, 0, api.ErrLarge}, {3 << 16, 2, 20, 0, api.OK}, {1 << 15, 2, 20, 0, api.OK},
		{0, 3, 12, 729, api.OK}, {0, 3, 14, 0, api.ErrLarge}, {0, 999999937, 1, 1, api.OK},
	} {
		l, e := integer.Roots(x.a, x.p, x.k)
		want(t, fmt.Sprint("Roots ", x.a, x.p, x.k), e, x.e)
		want(t, fmt.Sprint("how many roots: ", x.a, x.p, x.k), len(l), x.count)
		if !slices.IsSorted(l) {
			t.Errorf("Roots(%d, %d, %d) do not ascend", x.a, x.p, x.k)
		}
	}
}

func TestErrorsOfRoots(t *testing.T) {
	for _, x := range []struct {
		p, k int
		e    api.Errno
	}{
		{4, 1, api.ErrPrime}, {4, 0, api.ErrPrime}, {1, 1, api.ErrPrime}, {0, 1, api.ErrPrime}, {-3, 1, api.ErrPrime}, {least, least, api.ErrPrime}, {1000000007, 1, api.ErrPrime}, {1, greatest, api.ErrPrime},
		{3, 0, api.ErrRange}, {3, -1, api.ErrRange}, {3, least, api.ErrRange}, {2, 30, api.ErrRange}, {3, 19, api.ErrRange}, {31627, 2, api.ErrRange}, {999999937, 2, api.ErrRange}, {2, 64, api.ErrRange}, {3, greatest, api.ErrRange}, {2, 0, api.ErrRange},
	} {
		l, e := integer.Roots(1, x.p, x.k)
		want(t, fmt.Sprint("Roots ", x.p, x.k), e, x.e)
		wantList(t, "beside the error", l, nil)
		r, e := integer.Lift(1, x.p, x.k, 0)
		want(t, fmt.Sprint("Lift ", x.p, x.k), e, x.e)
		want(t, "beside the error", r, 0)
	}
	for _, x := range []struct {
		a, p, k, r int
		e          api.Errno
	}{
		{1, 2, 1, 1, api.ErrPrime}, {1, 2, 29, 0, api.ErrPrime}, {0, 7, 2, 0, api.ErrForm}, {49, 7, 2, 7, api.ErrForm}, {0, 7, 2, -14, api.ErrForm}, {2, 7, 2, 2, api.ErrForm}, {3, 7, 2, 1, api.ErrForm}, {7, 7, 2, 1, api.ErrForm}, {3, 7, 1, greatest, api.ErrForm},
	} {
		r, e := integer.Lift(x.a, x.p, x.k, x.r)
		want(t, fmt.Sprint("Lift ", x.a, x.p, x.k, x.r), e, x.e)
		want(t, "beside the error", r, 0)
	}
}

func TestLiftOfAnyInts(t *testing.T) {
	for _, r := range append([]int{4, 5}, beside...) {
		a := mod(r, 101)
		if a != 0 {
			wantLift(t, a*a, 101, 4, r)
			wantLift(t, a*a-101*101*101*101*5, 101, 4, r)
		}
	}
	for _, a := range []int{least, greatest} {
		l, e := integer.Roots(a, 5, 12)
		want(t, "Roots", e, api.OK)
		for _, r := range l {
			wantLift(t, a, 5, 12, r)
		}
	}
}
