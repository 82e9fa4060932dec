package order_test

import (
	"fmt"
	"slices"
	"testing"

	"fourfold/algebra"
	"fourfold/api"
	"fourfold/order"
)

// The tests of this file are those of P4.8.

// exponent is the least positive one for which the power of a unit is 1.
func exponent(t *testing.T, a api.Algebra, q api.Quat) int {
	t.Helper()
	for n := 1; n <= 24; n++ {
		if made[api.Quat](t)(algebra.Power(a, q, n)) == one {
			return n
		}
	}
	return 0
}

// groupOf is the name of the group with these exponents of its elements: no two of the groups have the same ones.
func groupOf(t *testing.T, a api.Algebra, units []api.Quat) string {
	t.Helper()
	counts := map[int]int{}
	for _, q := range units {
		counts[exponent(t, a, q)]++
	}
	for name, wanted := range map[string]map[int]int{
		"cyclic 2": {1: 1, 2: 1}, "cyclic 4": {1: 1, 2: 1, 4: 2}, "cyclic 6": {1: 1, 2: 1, 3: 2, 6: 2},
		"quaternion 8": {1: 1, 2: 1, 4: 6}, "dicyclic 12": {1: 1, 2: 1, 3: 2, 4: 6, 6: 2}, "tetrahedral 24": {1: 1, 2: 1, 3: 8, 4: 6, 6: 8},
	} {
		if same(counts, wanted) {
			return name
		}
	}
	return fmt.Sprint(counts)
}

// slowGroup is the set of all products of units.
func slowGroup(t *testing.T, a api.Algebra, units []api.Quat) map[api.Quat]bool {
	t.Helper()
	group := map[api.Quat]bool{one: true}
	for before := 0; before < len(group); {
		before = len(group)
		var more []api.Quat
		for q := range group {
			for _, u := range units {
				more = append(more, made[api.Quat](t)(algebra.Mul(a, q, u)), made[api.Quat](t)(algebra.Mul(a, q, made[api.Quat](t)(algebra.Inverse(a, u)))))
			}
		}
		for _, q := range more {
			group[q] = true
		}
	}
	return group
}

// wantUnits checks Units, Group and Generators, and returns the name of the group.
func wantUnits(t *testing.T, a api.Algebra, l api.Lattice) string {
	t.Helper()
	what := fmt.Sprint(" ", a, l)
	units, e := order.Units(a, l)
	want(t, "Units"+what, e, api.OK)
	want(t, "Elements of norm 1"+what, same(units, made[[]api.Quat](t)(order.Elements(a, l, 1))), true)
	want(t, "the group of units"+what, len(slowGroup(t, a, units)), len(units))
	name, e := order.Group(a, l)
	wantResult(t, "Group"+what, name, e, groupOf(t, a, units), api.OK)
	var wanted []api.Quat
	for _, u := range units {
		if !slowGroup(t, a, wanted)[u] {
			wanted = append(wanted, u)
		}
	}
	generators, e := order.Generators(a, l)
	wantResult(t, "Generators"+what, generators, e, wanted, api.OK)
	return name
}

func TestUnitGroups(t *testing.T) {
	seen := map[string]int{}
	n := numbers(17)
	for _, a := range []api.Algebra{hamilton, three, {A: -1, B: -11}, {A: -3, B: -11}, {A: -2, B: -5}, {A: -1, B: -7}} {
		seen[wantUnits(t, a, lipschitz)]++
		l := made[api.Lattice](t)(order.Maximal(a, lipschitz))
		seen[wantUnits(t, a, l)]++
		for _, level := range []int{2, 3, 5, 7, 11} {
			if l, e := order.Eichler(a, l, level); e == api.OK {
				seen[wantUnits(t, a, l)]++
			}
		}
	}
	for range 100 {
		a := n.definite()
		l := n.order(t, a)
		seen[wantUnits(t, a, l)]++
	}
	for _, name := range []string{"cyclic 2", "cyclic 4", "cyclic 6", "quaternion 8", "dicyclic 12", "tetrahedral 24"} {
		if seen[name] == 0 {
			t.Errorf("no order has the group %s", name)
		}
	}
}

func TestExamplesOfUnitGroups(t *testing.T) {
	for _, x := range []struct {
		a    api.Algebra
		l    api.Lattice
		name string
	}{
		{hamilton, lipschitz, "quaternion 8"}, {hamilton, hurwitz, "tetrahedral 24"}, {hamilton, multiples(2), "cyclic 2"}, {api.Algebra{A: -1, B: -2}, lipschitz, "cyclic 4"}, {api.Algebra{A: -2, B: -2}, lipschitz, "cyclic 2"},
		{three, of(2, [4]int{2, 0, 0, 0}, [4]int{0, 2, 0, 0}, [4]int{1, 0, 1, 0}, [4]int{0, 1, 0, 1}), "dicyclic 12"}, {api.Algebra{A: -3, B: -5}, of(2, [4]int{1, 1, 0, 0}, [4]int{0, 2, 0, 0}, [4]int{0, 0, 1, 1}, [4]int{0, 0, 0, 2}), "cyclic 6"},
	} {
		name, e := order.Group(x.a, x.l)
		wantResult(t, fmt.Sprint("Group ", x.a, x.l), name, e, x.name, api.OK)
	}
	minus := func(q api.Quat) api.Quat { return made[api.Quat](t)(algebra.Scale(q, api.Frac{Num: -1, Den: 1})) }
	list, e := order.Generators(hamilton, lipschitz)
	wantResult(t, "Generators", list, e, []api.Quat{minus(one), minus(i), minus(j)}, api.OK)
	list, e = order.Generators(hamilton, multiples(2))
	wantResult(t, "Generators", list, e, []api.Quat{minus(one)}, api.OK)
	units := made[[]api.Quat](t)(order.Units(hamilton, hurwitz))
	want(t, "all units and their opposites", slices.ContainsFunc(units, func(q api.Quat) bool { return !slices.Contains(units, minus(q)) }), false)
}
