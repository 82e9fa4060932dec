package rotation_test

import (
	"fmt"
	"slices"
	"testing"

	"fourfold/api"
	"fourfold/rotation"
)

// The tests of this file are those of P7.3 and P7.4.

func TestOfNorm(t *testing.T) {
	got, e := rotation.OfNorm(2)
	wantResult(t, "OfNorm(2)", got, e, []api.Quat{whole(1, 1, 0, 0)}, api.OK)
	got, e = rotation.OfNorm(3)
	wantResult(t, "OfNorm(3)", got, e, []api.Quat{half(3, 1, -1, -1), half(3, 1, -1, 1), half(3, 1, 1, -1), half(3, 1, 1, 1)}, api.OK)
	for n := 1; n <= 30; n++ {
		var wanted []api.Quat
		associates := map[api.Quat]bool{}
		for _, q := range slices.Backward(quats(n)) {
			if associates[q] {
				continue
			}
			wanted = append(wanted, q)
			for _, u := range rotation.Units() {
				associates[product(q, u)] = true
			}
		}
		slices.Reverse(wanted)
		got, e := rotation.OfNorm(n)
		wantResult(t, fmt.Sprint("OfNorm of ", n), got, e, wanted, api.OK)
	}
	for _, n := range []int{0, -1, -5, api.MaxIdeal + 1, 1000, greatest, least} {
		wantError(t, fmt.Sprint("OfNorm of ", n), api.ErrRange, all(rotation.OfNorm(n))...)
	}
}

// oddDivisors is the sum of the odd divisors of n.
func oddDivisors(n int) int {
	sum := 0
	for d := 1; d <= n; d += 2 {
		if n%d == 0 {
			sum += d
		}
	}
	return sum
}

func TestListsOfAllNorms(t *testing.T) {
	n := numbers(20)
	for size := 1; size <= api.MaxIdeal; size++ {
		list := made[[]api.Quat](t)(rotation.OfNorm(size))
		want(t, fmt.Sprint("how many there are of norm ", size), len(list), oddDivisors(size))
		for i, q := range list {
			if norm(q) != size || i > 0 && ascending(list[i-1], q) >= 0 {
				t.Fatalf("norm %d: %v at place %d", size, q, i)
			}
		}
		q := one(&n, list...)
		want(t, "canonical", q, canonical(q))
	}
}

// models has all orders of a list of primes.
func models(primes ...int) [][]int {
	if len(primes) == 0 {
		return [][]int{nil}
	}
	var list [][]int
	for i, p := range primes {
		if slices.Index(primes, p) < i {
			continue
		}
		rest := slices.Delete(slices.Clone(primes), i, i+1)
		for _, m := range models(rest...) {
			list = append(list, append([]int{p}, m...))
		}
	}
	return list
}

// isPrimitive reports whether no prime divides a Hurwitz quaternion.
func isPrimitive(q api.Quat) bool {
	for m := 2; m*m <= norm(q); m++ {
		if of(over(q.Den*m, q.W, q.X, q.Y, q.Z)).isHurwitz() {
			return false
		}
	}
	return true
}

// model is a random model with a product of at most MaxHurwitz.
func (n *numbers) model(small ...int) []int {
	var list []int
	product := 1
	for range n.between(1, api.MaxModel) {
		p := one(n, small...)
		if product*p > mostNorm {
			break
		}
		list, product = append(list, p), product*p
	}
	return list
}

// along is a Hurwitz quaternion with the norm of the model.
func (n *numbers) along(t *testing.T, model []int) api.Quat {
	t.Helper()
	x := n.unit()
	for _, p := range model {
		x = product(x, n.ofNorm(t, p))
	}
	return x
}

func TestFactor(t *testing.T) {
	n := numbers(21)
	factored := 0
	for range 600 {
		model := n.model(2, 3, 3, 5, 7, 11, 13, 101, 499)
		x := n.along(t, model)
		slices.Sort(model)
		if n.between(0, 1) == 0 {
			model = one(&n, models(model...)...)
		}
		what := fmt.Sprint("Factor of ", x, " along ", model)
		list, e := rotation.Factor(n.rewritten(x), model)
		if !isPrimitive(x) {
			wantError(t, what, api.ErrForm, list, e)
			continue
		}
		factored++
		want(t, what, e, api.OK)
		want(t, what+", the product", product(list...), x)
		want(t, what+", the number of factors", len(list), len(model))
		for i, q := range list {
			want(t, what+", a norm", norm(q), model[i])
			if i < len(list)-1 {
				want(t, what+", canonical", q, canonical(q))
			}
		}
	}
	if factored < 200 {
		t.Errorf("only %d factorizations", factored)
	}
	list, e := rotation.Factor(whole(0, 0, 0, 1), []int{2})
	wantError(t, "a unit along 2", api.ErrShape, list, e)
	list, e = rotation.Factor(whole(2, 1, 0, 0), []int{5})
	wantResult(t, "one factor", list, e, []api.Quat{whole(2, 1, 0, 0)}, api.OK)
	list, e = rotation.Factor(whole(-1, -2, 0, 0), []int{5})
	wantResult(t, "one factor that is not canonical", list, e, []api.Quat{whole(-1, -2, 0, 0)}, api.OK)
	list, e = rotation.Factor(whole(3, 1, 0, 0), []int{2, 5})
	wantResult(t, "two factors", list, e, []api.Quat{whole(1, 1, 0, 0), whole(2, -1, 0, 0)}, api.OK)
}

func TestErrorsOfModels(t *testing.T) {
	check := func(x api.Quat, model []int, e api.Errno) {
		t.Helper()
		wantError(t, fmt.Sprint("Factor of ", x, " along ", model), e, all(rotation.Factor(x, model))...)
		if e == api.ErrForm {
			return
		}
		wantError(t, fmt.Sprint("CountFactors of ", x, " along ", model), e, all(rotation.CountFactors(x, model))...)
	}
	zero, five, eight := whole(0, 0, 0, 0), whole(2, 1, 0, 0), whole(2, 2, 0, 0)
	for _, model := range [][]int{nil, {4}, {5}, {2, 2, 2, 2, 2, 2, 2}} {
		check(zero, model, api.ErrZero)
	}
	for _, model := range [][]int{nil, {}, {1, 1, 1, 1, 1, 1, 1}, {5, 2, 2, 2, 2, 2, 2}} {
		check(five, model, api.ErrRange)
	}
	for _, model := range [][]int{{4}, {1}, {0}, {-5}, {5, 1}, {1, 5}, {2, 4}, {least}, {greatest}, {25}, {1000003}, {5, 1000003}, {5, 1000000007}, {3, 9}, {999999}, {1000000}, {-2, -2, 2}} {
		check(five, model, api.ErrPrime)
	}
	for _, model := range [][]int{{3}, {5, 5}, {5, 2}, {2, 5}, {2}, {7, 7}, {999983}, {999983, 999983, 999983, 999983, 999983, 999983}, {2, 2, 2}} {
		check(five, model, api.ErrShape)
	}
	check(eight, []int{2, 2}, api.ErrShape)
	check(eight, []int{2, 2, 2}, api.ErrForm)
	check(whole(6, 3, 0, 0), []int{3, 3, 5}, api.ErrForm)
	check(whole(6, 3, 0, 0), []int{3, 5}, api.ErrShape)
	check(whole(1, 1, 1, 1), []int{2, 2}, api.ErrForm)
	check(half(3, 3, 3, 3), []int{3, 3}, api.ErrForm)
}

func TestLargePrimes(t *testing.T) {
	// 999983 is the greatest prime up to 10^6.
	x := sumOfSquares(999983)
	list, e := rotation.Factor(x, []int{999983})
	wantResult(t, "a large prime", list, e, []api.Quat{x}, api.OK)
	count, e := rotation.CountFactors(x, []int{999983})
	wantResult(t, "a large prime", count, e, 1, api.OK)
}

// lists counts all lists of Hurwitz quaternions of these norms with the product x, one by one.
func lists(x exact, model []int, all map[int][]api.Quat) int {
	if len(model) == 1 {
		return 1
	}
	sum := 0
	for _, q := range all[model[0]] {
		if rest := of(q).inverse().times(x); rest.isHurwitz() {
			sum += lists(rest, model[1:], all)
		}
	}
	return sum
}

// chains counts all such lists whose factors but the last one are canonical.
func chains(t *testing.T, x exact, model []int) int {
	t.Helper()
	if len(model) == 1 {
		return 1
	}
	sum := 0
	for _, q := range made[[]api.Quat](t)(rotation.OfNorm(model[0])) {
		if rest := of(q).inverse().times(x); rest.isHurwitz() {
			sum += chains(t, rest, model[1:])
		}
	}
	return sum
}

func TestCountFactorsOneByOne(t *testing.T) {
	n := numbers(22)
	all := map[int][]api.Quat{2: quats(2), 3: quats(3), 5: quats(5)}
	for range 30 {
		var model []int
		for range n.between(1, 3) {
			model = append(model, one(&n, 2, 3, 3, 5, 5))
		}
		x := n.along(t, model)
		if len(model) > 1 && model[0] == model[1] {
			model[1] = model[0]
			x = product(whole(model[0], 0, 0, 0), n.along(t, model[2:]))
		}
		count, e := rotation.CountFactors(n.rewritten(x), model)
		wantResult(t, fmt.Sprint("CountFactors of ", x, " along ", model), count, e, lists(of(x), model, all), api.OK)
	}
}

func TestCountFactors(t *testing.T) {
	n := numbers(23)
	seen := map[int]bool{}
	for range 150 {
		model := n.model(2, 3, 3, 3, 5, 5, 7)
		x := n.along(t, model)
		if n.between(0, 1) == 0 {
			var doubled []int
			content := 1
			for _, p := range model[:min(len(model), 3)] {
				doubled, content = append(doubled, p, p), content*p
			}
			model, x = doubled, product(whole(content, 0, 0, 0), n.unit())
		}
		model = one(&n, models(model...)...)
		wanted := chains(t, of(x), model)
		seen[wanted] = true
		for range model[1:] {
			wanted *= 24
		}
		count, e := rotation.CountFactors(x, model)
		wantResult(t, fmt.Sprint("CountFactors of ", x, " along ", model), count, e, wanted, api.OK)
	}
	if len(seen) < 8 {
		t.Errorf("only %d different numbers", len(seen))
	}
	for _, x := range []struct {
		q     api.Quat
		model []int
		want  int
	}{
		{whole(997, 0, 0, 0), []int{997, 997}, 24 * 998},
		{whole(8, 0, 0, 0), []int{2, 2, 2, 2, 2, 2}, 24 * 24 * 24 * 24 * 24},
		{whole(0, 3, 0, 0), []int{3, 3}, 24 * 4},
		{whole(6, 3, 0, 0), []int{3, 5, 3}, 24 * 24 * 4},
		{whole(2, 1, 0, 0), []int{5}, 1},
		// Six steps from a vertex of the tree back to it: first 2, 4 or 6 steps until it is reached again.
		{whole(343, 0, 0, 0), []int{7, 7, 7, 7, 7, 7}, (8*8*8 + 2*8*8*7 + 8*7*14) * 24 * 24 * 24 * 24 * 24},
	} {
		count, e := rotation.CountFactors(x.q, x.model)
		wantResult(t, fmt.Sprint("CountFactors of ", x.q, " along ", x.model), count, e, x.want, api.OK)
	}
}
