package algebra_test

import (
	"fmt"
	"testing"

	"fourfold/algebra"
	"fourfold/api"
)

// The tests of this file are those of P3.10.

// made is the result of a function that has to be OK.
func made[T any](t *testing.T) func(result T, e api.Errno) T {
	return func(result T, e api.Errno) T {
		t.Helper()
		want(t, "a result", e, api.OK)
		return result
	}
}

func TestLawsOfConjugates(t *testing.T) {
	n := numbers(17)
	quat, frac := made[api.Quat](t), made[api.Frac](t)
	for range 2000 {
		a := api.Algebra{A: n.between(1, 9), B: -n.between(1, 9)}
		p, q := n.quat(20, 4), n.quat(20, 4)
		product := quat(algebra.Mul(a, p, q))
		norms := toRat(frac(algebra.Norm(a, p)))
		norms.Mul(norms, toRat(frac(algebra.Norm(a, q))))
		norm, e := algebra.Norm(a, product)
		wantFrac(t, fmt.Sprint("the norm of a product ", a, p, q), norm, e, norms)
		turned := quat(algebra.Mul(a, quat(algebra.Conj(q)), quat(algebra.Conj(p))))
		want(t, fmt.Sprint("the conjugate of a product ", a, p, q), quat(algebra.Conj(product)), turned)
		norm = frac(algebra.Norm(a, p))
		want(t, fmt.Sprint("an element times its conjugate ", a, p), quat(algebra.Mul(a, p, quat(algebra.Conj(p)))), api.Quat{W: norm.Num, Den: norm.Den})
		want(t, "the conjugate of the conjugate", quat(algebra.Conj(quat(algebra.Conj(p)))), quat(algebra.Normal(p)))
	}
}

func TestRootsOfMinimalPolynomials(t *testing.T) {
	n := numbers(18)
	quat, list := made[api.Quat](t), made[[]api.Frac](t)
	for range 2000 {
		a, q := api.Algebra{A: n.between(1, 9), B: -n.between(1, 9)}, n.quat(9, 3)
		if n.between(0, 3) == 0 {
			q = api.Quat{W: q.W, Den: q.Den}
		}
		value := api.Quat{Den: 1}
		for m, c := range list(algebra.Polynomial(a, q)) {
			term := quat(algebra.Scale(quat(algebra.Power(a, q, m)), c))
			value = quat(algebra.Add(value, term))
		}
		want(t, fmt.Sprint("the value of the minimal polynomial ", a, q), value, api.Quat{Den: 1})
	}
}

func TestInversesAndPowers(t *testing.T) {
	n := numbers(19)
	quat := made[api.Quat](t)
	for range 2000 {
		q := n.quat(3, 2)
		if q.W == 0 && q.X == 0 && q.Y == 0 && q.Z == 0 {
			continue
		}
		r := quat(algebra.Inverse(hamilton, q))
		want(t, fmt.Sprint("the inverse ", q), quat(algebra.Mul(hamilton, q, r)), one)
		want(t, fmt.Sprint("the inverse from the left ", q), quat(algebra.Mul(hamilton, r, q)), one)
		square := quat(algebra.Power(hamilton, q, -2))
		want(t, fmt.Sprint("the power -2 of ", q), quat(algebra.Mul(hamilton, square, quat(algebra.Power(hamilton, q, 2)))), one)
	}
}

func TestNumbersOfPlaces(t *testing.T) {
	n := numbers(20)
	for range 3000 {
		a := n.algebra()
		primes, infinite := places(t, a)
		count := len(primes)
		if infinite {
			count++
		}
		want(t, fmt.Sprint("an odd number of places ", a), count%2, 0)
		for m := range primes {
			if m > 0 && primes[m-1] >= primes[m] {
				t.Errorf("Ramified %v: %v", a, primes)
			}
		}
	}
}

// hasDivisor reports whether an element other than 0 with numbers from -most to most has the norm 0.
func hasDivisor(a api.Algebra, most int) bool {
	for w := 0; w <= most; w++ {
		for x := 0; x <= most; x++ {
			for y := 0; y <= most; y++ {
				for z := 0; z <= most; z++ {
					if w*w-a.A*x*x-a.B*y*y+a.A*a.B*z*z == 0 && (w > 0 || x > 0 || y > 0 || z > 0) {
						return true
					}
				}
			}
		}
	}
	return false
}

func TestElementsOfNormZero(t *testing.T) {
	for a := -9; a <= 9; a++ {
		for b := -9; b <= 9; b++ {
			if a != 0 && b != 0 {
				want(t, fmt.Sprint("zero divisors of ", a, b), hasDivisor(api.Algebra{A: a, B: b}, 9), splits(t, api.Algebra{A: a, B: b}))
			}
		}
	}
}

func TestDiscriminantsOfIsomorphicAlgebras(t *testing.T) {
	number := made[int](t)
	for a := -12; a <= 12; a++ {
		for b := -12; b <= 12; b++ {
			for _, other := range []api.Algebra{hamilton, six, matrices, {A: -1, B: -3}, {A: -2, B: -5}, {A: -1, B: -7}, {A: 2, B: 5}} {
				one := api.Algebra{A: a, B: b}
				if algebra.Check(one) != api.OK {
					continue
				}
				is := made[bool](t)(algebra.Isomorphic(one, other))
				back := made[bool](t)(algebra.Isomorphic(other, one))
				want(t, fmt.Sprint("Isomorphic the other way ", one, other), back, is)
				same := number(algebra.Discriminant(one)) == number(algebra.Discriminant(other))
				want(t, fmt.Sprint("the discriminants of ", one, other), same, is) // the primes say whether infinity is among the places
			}
		}
	}
}

func TestTextsAreReadBack(t *testing.T) {
	n := numbers(21)
	for range 5000 {
		q := made[api.Quat](t)(algebra.Normal(n.anyQuat()))
		s := made[string](t)(algebra.Format(q))
		want(t, "the element of the text "+s, made[api.Quat](t)(algebra.Parse(s)), q)
	}
}
