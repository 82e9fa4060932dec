package rotation_test

import (
	"fmt"
	"testing"

	"fourfold/api"
	"fourfold/rotation"
)

// The tests of this file are those of P7.10.

func TestNormsOfProducts(t *testing.T) {
	n := numbers(80)
	for range 500 {
		x, y := n.hurwitz(9), n.hurwitz(9)
		p := made[api.Quat](t)(rotation.Times(x, y))
		a, b := made[int](t)(rotation.Norm(x)), made[int](t)(rotation.Norm(y))
		want(t, fmt.Sprint("the norm of ", x, " times ", y), made[int](t)(rotation.Norm(p)), a*b)
	}
}

// combination finds a and b with x a + y b = d by the divisions of Euclid's algorithm.
func combination(t *testing.T, x, y api.Quat) (d, a, b exact) {
	t.Helper()
	first := [3]exact{of(x), of(whole(1, 0, 0, 0)), of(whole(0, 0, 0, 0))}
	second := [3]exact{of(y), of(whole(0, 0, 0, 0)), of(whole(1, 0, 0, 0))}
	for second[0].norm().Sign() != 0 {
		division := made[api.Division](t)(rotation.Divide(first[0].quat(), second[0].quat()))
		var rest [3]exact
		for i := range rest {
			rest[i] = first[i].minus(second[i].times(of(division.Quotient)))
		}
		first, second = second, rest
	}
	return first[0], first[1], first[2]
}

func TestWhatCommonDivisorsDivide(t *testing.T) {
	n := numbers(81)
	for range 400 {
		d := n.filled(one(&n, 1, 3))
		x, y := product(d, n.filled(4)), product(d, n.filled(4))
		g := made[api.Quat](t)(rotation.Gcd(x, y))
		what := fmt.Sprint("the common divisor ", g, " of ", x, " and ", y)
		want(t, what+" divides the first one", quotient(g, x).isHurwitz(), true)
		want(t, what+" divides the second one", quotient(g, y).isHurwitz(), true)
		want(t, what+" is a multiple of each one", quotient(d, g).isHurwitz(), true)
		last, a, b := combination(t, x, y)
		want(t, what+" is a combination", last.minus(of(x).times(a)).minus(of(y).times(b)).norm().Sign(), 0)
		want(t, what+" and the last remainder", made[api.Quat](t)(rotation.Canonical(last.quat())), g)
	}
}

func TestNumbersOfFactorizations(t *testing.T) {
	n := numbers(82)
	counted := 0
	for range 300 {
		model := n.model(2, 3, 5, 7, 11, 13)
		x := n.along(t, model)
		if made[int](t)(rotation.Content(x)) != 1 {
			continue
		}
		counted++
		wanted := 1
		for range model[1:] {
			wanted *= 24
		}
		for _, m := range models(model...) {
			want(t, fmt.Sprint("CountFactors of ", x, " along ", m), made[int](t)(rotation.CountFactors(x, m)), wanted)
			list := made[[]api.Quat](t)(rotation.Factor(x, m))
			want(t, fmt.Sprint("Factor of ", x, " along ", m), product(list...), x)
		}
	}
	if counted < 100 {
		t.Errorf("only %d primitive quaternions", counted)
	}
}

func TestProductsOfPermutations(t *testing.T) {
	n := numbers(83)
	for range 150 {
		p := one(&n, 2, 3, 5, 7, 13)
		x, y := n.filled(3), n.filled(3)
		if norm(x)%p == 0 || norm(y)%p == 0 {
			continue
		}
		first, second := made[[]int](t)(rotation.Permutation(y, p)), made[[]int](t)(rotation.Permutation(x, p))
		var places []int
		for _, place := range first {
			places = append(places, second[place])
		}
		got, e := rotation.Permutation(product(x, y), p)
		wantResult(t, fmt.Sprint("Permutation of ", x, " times ", y, " at ", p), got, e, places, api.OK)
	}
}

func TestPermutationsOfIntegers(t *testing.T) {
	n := numbers(84)
	for _, p := range []int{2, 3, 5, 7, 31} {
		for range 10 {
			x := whole(n.between(-40, 40), 0, 0, 0)
			if x.W%p == 0 {
				continue
			}
			y := n.hurwitz(3)
			sum := over(y.Den, x.W*y.Den+p*y.W, p*y.X, p*y.Y, p*y.Z)
			for _, q := range []api.Quat{x, sum} {
				got, e := rotation.Permutation(q, p)
				if e == api.ErrLarge {
					continue
				}
				var identity []int
				for range got {
					identity = append(identity, len(identity))
				}
				wantResult(t, fmt.Sprint("Permutation of ", q, " at ", p), got, e, identity, api.OK)
			}
		}
	}
}

func TestMatricesOfProducts(t *testing.T) {
	n := numbers(85)
	for range 500 {
		x, y := n.some(8), n.some(8)
		r, s := made[api.Rotation](t)(rotation.Matrix(x)), made[api.Rotation](t)(rotation.Matrix(y))
		got, e := rotation.Compose(r, s)
		wanted, f := rotation.Matrix(reduced(product(x, y)))
		wantResult(t, fmt.Sprint("the rotations of ", x, " and ", y), got, e, wanted, f)
		by := n.between(1, 9)
		multiple := over(n.between(1, 9), -by*x.W, -by*x.X, -by*x.Y, -by*x.Z)
		wantResult(t, fmt.Sprint("a multiple of ", x), made[api.Rotation](t)(rotation.Matrix(multiple)), api.OK, r, api.OK)
		back, e := rotation.Quaternion(r)
		wantResult(t, fmt.Sprint("Quaternion of Matrix of ", x), back, e, reduced(x), api.OK)
		if x.W == 0 {
			continue
		}
		parameters := made[[]api.Frac](t)(rotation.Rodrigues(x))
		back, e = rotation.FromRodrigues(parameters)
		wantResult(t, fmt.Sprint("FromRodrigues of Rodrigues of ", x), back, e, reduced(x), api.OK)
	}
}

func TestIndicesOfCoincidenceLattices(t *testing.T) {
	n := numbers(86)
	for range 300 {
		x := n.some(one(&n, 2, 5, 12))
		index := squares(reduced(x))
		for index%2 == 0 {
			index /= 2
		}
		for kind := range 3 {
			_, got, e := rotation.Coincidence(kind, x)
			wantResult(t, fmt.Sprint("the index of ", x, " of the kind ", kind), got, e, index, api.OK)
		}
	}
}

func TestWordsAreEvaluated(t *testing.T) {
	n := numbers(87)
	found := 0
	for range 300 {
		gens := n.generators(3, 2)
		x := n.some(3)
		if n.between(0, 2) > 0 {
			x = product(reduced(one(&n, gens...)), reduced(one(&n, gens...)), reduced(one(&n, gens...)))
		}
		word, e := rotation.Word(x, gens, 4)
		if e != api.OK {
			continue
		}
		found++
		got, e := rotation.Evaluate(word, gens)
		wantResult(t, fmt.Sprint("Evaluate of Word of ", x), got, e, reduced(x), api.OK)
	}
	if found < 150 {
		t.Errorf("only %d words", found)
	}
}
