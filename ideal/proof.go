package ideal

import (
	"slices"

	"fourfold/api"
	"fourfold/exact"
	"fourfold/integer"
)

// acceptClasses returns the right ideals to which a class set belongs and its classes, or the error of CheckClasses.
func acceptClasses(a api.Algebra, c api.Classes) (genus, []class, api.Errno) {
	g, e := genusOf(a, c.Order)
	if e != api.OK {
		return genus{}, nil, e
	}
	if len(c.Units) != len(c.Ideals) {
		return genus{}, nil, api.ErrShape
	}
	if g.disc*g.level > api.MaxLevel || len(c.Ideals) > api.MaxClasses {
		return genus{}, nil, api.ErrLarge
	}
	var ideals []exact.Lattice
	for _, l := range c.Ideals {
		x, e := exact.Accept(l)
		if e != api.OK {
			return genus{}, nil, e
		}
		ideals = append(ideals, x)
	}
	classes, ok := g.prove(ideals, c.Units)
	if !ok || c.Disc != g.disc || c.Level != g.level {
		return genus{}, nil, api.ErrProof
	}
	return g, classes, api.OK
}

// prove returns the classes of a list of lattices, and whether this is, with these numbers of units, that of a class set.
func (g genus) prove(ideals []exact.Lattice, units []int) ([]class, bool) {
	if len(ideals) == 0 || !ideals[0].Equals(g.order) {
		return nil, false
	}
	var list []class
	rest := weight(g.disc, g.level)
	for i, l := range ideals {
		c := g.classOf(l)
		if !l.RightOrder(g.algebra).Equals(g.order) || g.units(c) != units[i] || g.find(list, c) >= 0 {
			return nil, false
		}
		list = append(list, c)
		rest -= mostUnits / units[i]
	}
	return list, rest == 0
}

// CheckClasses returns OK if c is a class set.
func CheckClasses(a api.Algebra, c api.Classes) api.Errno {
	_, _, e := acceptClasses(a, c)
	return e
}

// ClassOf returns the number of the first ideal to which l is equivalent, and the first map from it onto l.
func ClassOf(a api.Algebra, c api.Classes, l api.Lattice) (int, api.Quat, api.Errno) {
	g, classes, e := acceptClasses(a, c)
	if e != api.OK {
		return 0, api.Quat{}, e
	}
	if e := Check(a, c.Order, l); e != api.OK {
		return 0, api.Quat{}, e
	}
	x := exact.Of(l)
	number := g.find(classes, g.classOf(x))
	list, e := quats(maps(a, x, classes[number].lattice))
	if e != api.OK {
		return 0, api.Quat{}, e
	}
	return number, list[0], api.OK
}

// twoSided returns the ideal of the order on both sides whose norm is n, a divisor of its discriminant: at each prime that divides n it is the greatest one but the order.
func (g genus) twoSided(n int) exact.Lattice {
	return g.order.Dual(g.algebra).By(g.disc * g.level).Plus(g.order.By(n))
}

// Types returns for each ideal the number of the first one whose left order is conjugate to its own.
// The left orders of I and J are conjugate just if a lattice x J is I times an ideal of the order on both sides: these are the multiples of those of twoSided.
func Types(a api.Algebra, c api.Classes) ([]int, api.Errno) {
	g, classes, e := acceptClasses(a, c)
	if e != api.OK {
		return nil, e
	}
	const none = -1
	types := slices.Repeat([]int{none}, len(classes))
	divisors, _ := integer.Divisors(g.disc * g.level)
	for i, first := range classes {
		if types[i] != none {
			continue
		}
		for _, n := range divisors {
			other := g.classOf(first.lattice.Times(a, g.twoSided(n)))
			types[g.find(classes, other)] = i
		}
	}
	return types, api.OK
}
