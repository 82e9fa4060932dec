package ideal_test

import (
	"fmt"
	"math/big"
	"slices"
	"testing"

	"fourfold/algebra"
	"fourfold/api"
	"fourfold/ideal"
	"fourfold/order"
)

// The tests of this file are those of P5.8 and P5.10. (P5.9 is tested with P5.5.)

// ratOf is a fraction of any size.
func ratOf(f api.Frac) *big.Rat { return rat(f.Num, f.Den) }

// norm is the norm of a lattice.
func norm(t *testing.T, a api.Algebra, l api.Lattice) *big.Rat {
	t.Helper()
	return ratOf(made[api.Frac](t)(ideal.Norm(a, l)))
}

// wantSame compares two lattices that are results.
func wantSame(t *testing.T, what string, l, m api.Lattice) {
	t.Helper()
	want(t, what, compare(l, m), 0)
}

func TestMultiplesOfLattices(t *testing.T) {
	n := numbers(50)
	for range 150 {
		a := n.algebra(12)
		l, x := n.lattice(a), n.quat(4, 3)
		size := slowOf(x).norm(a)
		if size.Sign() == 0 {
			continue
		}
		m, e := ideal.Times(a, x, l)
		left, f := ideal.LeftOrder(a, l)
		if e != api.OK || f != api.OK {
			continue
		}
		what := fmt.Sprint("multiples ", a, x, l)
		want(t, what, norm(t, a, m).Cmp(new(big.Rat).Mul(new(big.Rat).Abs(size), norm(t, a, l))), 0)
		want(t, what, ratOf(made[api.Frac](t)(ideal.Index(a, l, m))).Cmp(new(big.Rat).Mul(size, size)), 0)
		inverse, e := algebra.Inverse(a, x)
		turned, f := order.Conjugate(a, left, inverse)
		if e == api.OK && f == api.OK {
			wantSame(t, what, made[api.Lattice](t)(ideal.LeftOrder(a, m)), turned)
		}
		if right, e := ideal.RightOrder(a, l); e == api.OK {
			wantSame(t, what, made[api.Lattice](t)(ideal.RightOrder(a, m)), right)
		}
	}
}

func TestConjugatesAndInverses(t *testing.T) {
	n := numbers(51)
	inverses := 0
	for range 150 {
		a := n.algebra(12)
		l := n.lattice(a)
		conjugate := made[api.Lattice](t)(ideal.Conjugate(a, l))
		left, e := ideal.LeftOrder(a, l)
		right, f := ideal.RightOrder(a, l)
		if e != api.OK || f != api.OK {
			continue
		}
		what := fmt.Sprint("conjugates and inverses ", a, l)
		wantSame(t, what, made[api.Lattice](t)(ideal.RightOrder(a, conjugate)), left)
		wantSame(t, what, made[api.Lattice](t)(ideal.LeftOrder(a, conjugate)), right)
		inverse, e := ideal.Inverse(a, l)
		if e != api.OK {
			continue
		}
		inverses++
		wantSame(t, what, made[api.Lattice](t)(ideal.LeftOrder(a, inverse)), right)
		wantSame(t, what, made[api.Lattice](t)(ideal.Inverse(a, inverse)), slowRows(l).lattice())
		wantSame(t, what, made[api.Lattice](t)(ideal.Product(a, l, inverse)), left)
		wantSame(t, what, made[api.Lattice](t)(ideal.Product(a, inverse, l)), right)
	}
	if inverses < 60 {
		t.Errorf("only %d inverses", inverses)
	}
}

func TestProductsThatFit(t *testing.T) {
	n := numbers(52)
	for _, x := range []struct {
		a     api.Algebra
		level int
	}{{hamilton, 1}, {api.Algebra{A: -2, B: -13}, 1}, {hamilton, 15}, {six, 5}, {matrices, 6}} {
		o := eichler(t, x.a, x.level)
		for range 10 {
			m := made[[]api.Lattice](t)(ideal.OfNorm(x.a, o, 7))[n.between(0, 7)]
			left := made[api.Lattice](t)(ideal.LeftOrder(x.a, m))
			l := made[[]api.Lattice](t)(ideal.OfNorm(x.a, left, 11))[n.between(0, 11)]
			connected := made[api.Lattice](t)(ideal.Product(x.a, l, m))
			what := fmt.Sprint("products ", x.a, l, m)
			want(t, what, norm(t, x.a, connected).Cmp(new(big.Rat).Mul(norm(t, x.a, l), norm(t, x.a, m))), 0)
			wantSame(t, what, made[api.Lattice](t)(ideal.LeftOrder(x.a, connected)), made[api.Lattice](t)(ideal.LeftOrder(x.a, l)))
			wantSame(t, what, made[api.Lattice](t)(ideal.RightOrder(x.a, connected)), o)
			want(t, what, ideal.Check(x.a, o, connected), api.OK)
			_, e := ideal.Inverse(x.a, connected)
			want(t, what, e, api.OK)
		}
	}
}

func TestEquivalence(t *testing.T) {
	a := api.Algebra{A: -1, B: -23}
	o := maximal(t, a)
	c := made[api.Classes](t)(ideal.ClassSet(a, o))
	list := append(made[[]api.Lattice](t)(ideal.OfNorm(a, o, 6)), c.Ideals...)
	var classes []int
	for _, l := range list {
		number, _, e := ideal.ClassOf(a, c, l)
		want(t, "ClassOf", e, api.OK)
		classes = append(classes, number)
	}
	for n, l := range list {
		units := len(made[[]api.Quat](t)(order.Units(a, made[api.Lattice](t)(ideal.LeftOrder(a, l)))))
		for k, m := range list {
			x, is, e := ideal.Equivalent(a, l, m)
			want(t, "Equivalent", e, api.OK)
			want(t, "Equivalent, by the classes", is, classes[n] == classes[k])
			maps := made[[]api.Quat](t)(ideal.Maps(a, l, m))
			if !is {
				want(t, "no maps", len(maps), 0)
				continue
			}
			want(t, "the number of maps", len(maps), units)
			want(t, "the first map", maps[0], x)
			_, back, _ := ideal.Equivalent(a, m, l)
			want(t, "Equivalent is symmetric", back, true)
			wantTurned(t, a, maps, m)
		}
	}
}

// wantTurned checks that the maps from m are x u for the units u of the left order of m.
func wantTurned(t *testing.T, a api.Algebra, maps []api.Quat, m api.Lattice) {
	t.Helper()
	units := made[[]api.Quat](t)(order.Units(a, made[api.Lattice](t)(ideal.LeftOrder(a, m))))
	for _, u := range units {
		product := made[api.Quat](t)(algebra.Mul(a, maps[0], u))
		want(t, fmt.Sprint("the map by the unit ", u), slices.Contains(maps, product), true)
	}
}

func TestClassSetsOfAllMaximalOrders(t *testing.T) {
	for _, a := range []api.Algebra{eleven, {A: -1, B: -23}, {A: -2, B: -37}, {A: -1, B: -67}, {A: -3, B: -10}} {
		var wanted string
		first := made[api.Classes](t)(ideal.ClassSet(a, maximal(t, a)))
		for _, l := range first.Ideals {
			o := made[api.Lattice](t)(ideal.LeftOrder(a, l))
			c := made[api.Classes](t)(ideal.ClassSet(a, o))
			types := made[[]int](t)(ideal.Types(a, c))
			slices.Sort(c.Units)
			numbers := fmt.Sprint(len(c.Ideals), c.Units, countTypes(types))
			if wanted == "" {
				wanted = numbers
			}
			want(t, fmt.Sprint("the class set of ", a, o), numbers, wanted)
			for _, m := range made[[]api.Lattice](t)(ideal.OfNorm(a, o, 17)) {
				same := 0
				for _, k := range c.Ideals {
					if _, is, _ := ideal.Equivalent(a, m, k); is {
						same++
					}
				}
				want(t, fmt.Sprint("the classes of ", m), same, 1)
			}
		}
	}
}
