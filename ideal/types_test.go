package ideal_test

import (
	"fmt"
	"math/big"
	"slices"
	"testing"

	"fourfold/api"
	"fourfold/ideal"
	"fourfold/integer"
	"fourfold/order"
)

// The tests of this file are those of P5.7.

// areConjugate reports whether the left orders of l and m, right ideals of an order with this discriminant, are conjugate.
// If x takes that of m to that of l, then some multiple of x by a number is in the product of l and the inverse of m and no proper multiple there, and so its norm is, but for that of the product, a divisor of the discriminant.
func areConjugate(a api.Algebra, l, m grid, disc int) bool {
	product := grid(products(a, l, m.inverse(a)))
	left, right := leftOrder(a, l), leftOrder(a, m)
	divisors, _ := integer.Divisors(disc)
	for _, n := range divisors {
		for _, x := range slowElements(a, product, new(big.Rat).Mul(product.norm(a), rat(n, 1))) {
			if grid(products(a, []slow{x}, right)).isSame(products(a, left, []slow{x})) {
				return true
			}
		}
	}
	return false
}

func TestTypes(t *testing.T) {
	for _, x := range []struct {
		a     api.Algebra
		level int
	}{{hamilton, 1}, {eleven, 1}, {hamilton, 13}, {hamilton, 15}, {api.Algebra{A: -1, B: -7}, 3}, {api.Algebra{A: -1, B: -23}, 1}, {api.Algebra{A: -2, B: -37}, 1}, {api.Algebra{A: -2, B: -13}, 2}, {api.Algebra{A: -3, B: -10}, 1}, {api.Algebra{A: -3, B: -10}, 7}, {api.Algebra{A: -1, B: -67}, 1}} {
		c := made[api.Classes](t)(ideal.ClassSet(x.a, eichler(t, x.a, x.level)))
		var wanted []int
		for n, l := range c.Ideals {
			first := slices.IndexFunc(c.Ideals[:n], func(m api.Lattice) bool {
				return areConjugate(x.a, slowRows(l), slowRows(m), c.Disc*c.Level)
			})
			if first < 0 {
				first = n
			}
			wanted = append(wanted, first)
		}
		types, e := ideal.Types(x.a, c)
		wantResult(t, fmt.Sprint("Types ", x.a, x.level), types, e, wanted, api.OK)
	}
}

// numberOfForms is the class number of primitive binary forms with the discriminant -d, from the reduced ones.
func numberOfForms(d int) int {
	count := 0
	for a := 1; 3*a*a <= d; a++ {
		for b := 1 - a; b <= a; b++ {
			c := (b*b + d) / (4 * a)
			if (b*b+d)%(4*a) != 0 || c < a || c == a && b < 0 {
				continue
			}
			if gcd(gcd(a, b), c) == 1 {
				count++
			}
		}
	}
	return count
}

func gcd(x, y int) int {
	g, _, _, _ := integer.Bezout(x, y)
	return g
}

// numberOfTypes is that of maximal orders for a prime discriminant p above 3: half the sum of the number of classes and of those of which there is one with the type.
func numberOfTypes(p int) int {
	alone := numberOfForms(4*p) / 2
	switch p % 8 {
	case 7:
		alone = numberOfForms(p)
	case 3:
		alone = 2 * numberOfForms(p)
	}
	return (classNumber(p, 1) + alone) / 2
}

// countTypes is the number of different numbers in a list.
func countTypes(types []int) int {
	list := slices.Clone(types)
	slices.Sort(list)
	return len(slices.Compact(list))
}

func TestNumbersOfTypes(t *testing.T) {
	for p, types := range map[int]int{11: 2, 13: 1, 17: 2, 23: 3, 37: 2, 61: 4, 67: 4, 73: 4, 97: 5} {
		want(t, fmt.Sprint("the number of types for ", p), numberOfTypes(p), types)
	}
	for _, x := range definiteOnes {
		if x.disc < 5 || !integer.IsPrime(x.disc) {
			continue
		}
		c := made[api.Classes](t)(ideal.ClassSet(x.a, maximal(t, x.a)))
		types, e := ideal.Types(x.a, c)
		want(t, fmt.Sprint("Types ", x.a), e, api.OK)
		want(t, fmt.Sprint("the number of types ", x.a), countTypes(types), numberOfTypes(x.disc))
		for n, first := range types {
			want(t, "the type of the first one", types[first], first)
			want(t, "the first one of a type", first <= n, true)
			want(t, "the units of a type", c.Units[first], c.Units[n])
			left := made[api.Lattice](t)(ideal.LeftOrder(x.a, c.Ideals[n]))
			other := made[api.Lattice](t)(ideal.LeftOrder(x.a, c.Ideals[first]))
			for _, norm := range []int{2, 3, 5} {
				want(t, "the elements of a type", len(made[[]api.Quat](t)(order.Elements(x.a, left, norm))), len(made[[]api.Quat](t)(order.Elements(x.a, other, norm))))
			}
		}
	}
}
