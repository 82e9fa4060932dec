package ideal

import (
	"slices"

	"fourfold/algebra"
	"fourfold/api"
	"fourfold/exact"
	"fourfold/integer"
	"fourfold/order"
)

// genus is the right ideals of a hereditary order of a definite algebra.
type genus struct {
	algebra     api.Algebra
	order       exact.Lattice
	disc, level int
}

// genusOf returns the right ideals of an order, or the first error of those that all functions with class sets have.
func genusOf(a api.Algebra, o api.Lattice) (genus, api.Errno) {
	if e := checkDefinite(a); e != api.OK {
		return genus{}, e
	}
	if e := order.Check(a, o); e != api.OK {
		return genus{}, e
	}
	level, e := order.Level(a, o)
	if e != api.OK {
		return genus{}, api.ErrOrder
	}
	disc, _ := algebra.Discriminant(a)
	return genus{algebra: a, order: exact.Of(o), disc: disc, level: level}, api.OK
}

// class is a right ideal with a reduced basis, by which most lattices that are not equivalent are told apart.
type class struct {
	lattice exact.Lattice
	basis   exact.Basis
}

// classOf returns the class of l.
func (g genus) classOf(l exact.Lattice) class {
	return class{lattice: l, basis: exact.BasisOf(g.algebra, l)}
}

// find returns the number of the first class of a list that is c, or -1.
func (g genus) find(list []class, c class) int {
	return slices.IndexFunc(list, func(d class) bool {
		if !c.basis.IsAlike(d.basis) {
			return false
		}
		rows, _ := maps(g.algebra, c.lattice, d.lattice)
		return len(rows) > 0
	})
}

// units returns the number of units of the left order.
func (g genus) units(c class) int {
	count := 0
	for range exact.BasisOf(g.algebra, c.lattice.LeftOrder(g.algebra)).OfValue(1) {
		count++
	}
	return count
}

// prime returns the least prime that does not divide the discriminant of the order.
func (g genus) prime() int {
	p := 2
	for !integer.IsPrime(p) || g.disc*g.level%p == 0 {
		p++
	}
	return p
}

// small returns an equivalent lattice with small numbers: of all x l in the lattice of 1, i, j, k one with the least norm.
func (g genus) small(l exact.Lattice) exact.Lattice {
	standard, _ := order.Standard(g.algebra)
	b := exact.BasisOf(g.algebra, exact.Of(standard).Into(g.algebra, l))
	return l.Moved(g.algebra, b.Rows[3], b.Den)
}

// classes returns each class once, that of the order first, and their numbers of units, or ErrLarge if there are too many.
// By strong approximation each right ideal is equivalent to one whose norm is a power of p: so they are all found by going from neighbour to neighbour.
func (g genus) classes() ([]class, []int, api.Errno) {
	list := []class{g.classOf(g.order)}
	units := []int{g.units(list[0])}
	rest := weight(g.disc, g.level) - mostUnits/units[0]
	p := g.prime()
	for i := 0; rest > 0; i++ {
		for _, l := range neighbours(g.algebra, list[i].lattice, g.order, p) {
			if rest == 0 || g.find(list, g.classOf(l)) >= 0 {
				continue
			}
			if len(list) == api.MaxClasses {
				return nil, nil, api.ErrLarge
			}
			next := g.classOf(g.small(l))
			list = append(list, next)
			units = append(units, g.units(next))
			rest -= mostUnits / units[len(units)-1]
		}
	}
	return list, units, api.OK
}

// ClassSet returns a class set.
func ClassSet(a api.Algebra, o api.Lattice) (api.Classes, api.Errno) {
	g, e := genusOf(a, o)
	if e != api.OK {
		return api.Classes{}, e
	}
	// As 1 and -1 are units, there are at least twice as many classes as the mass says.
	if g.disc*g.level > api.MaxLevel || 2*weight(g.disc, g.level) > mostUnits*api.MaxClasses {
		return api.Classes{}, api.ErrLarge
	}
	classes, units, e := g.classes()
	if e != api.OK {
		return api.Classes{}, e
	}
	normal, _ := g.order.Normal()
	result := api.Classes{Order: normal, Disc: g.disc, Level: g.level, Units: units}
	for _, c := range classes {
		l, e := c.lattice.Normal()
		if e != api.OK {
			return api.Classes{}, e
		}
		result.Ideals = append(result.Ideals, l)
	}
	return result, api.OK
}
