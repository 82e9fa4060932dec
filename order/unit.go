package order

import (
	"slices"
	"strconv"

	"fourfold/algebra"
	"fourfold/api"
)

// Units returns the elements of norm 1.
func Units(a api.Algebra, l api.Lattice) ([]api.Quat, api.Errno) {
	return Elements(a, l, 1)
}

// Group returns the name of the group of the units.
func Group(a api.Algebra, l api.Lattice) (string, api.Errno) {
	units, e := Units(a, l)
	if e != api.OK {
		return "", e
	}
	// There are no other groups of quaternions with rational traces that contain -1 than these.
	kind := "cyclic"
	switch len(units) {
	case 8:
		kind = "quaternion"
	case 12:
		kind = "dicyclic"
	case 24:
		kind = "tetrahedral"
	}
	return kind + " " + strconv.Itoa(len(units)), api.OK
}

// generated returns all products of units, of which there are finitely many.
func generated(a api.Algebra, units []api.Quat) []api.Quat {
	group := []api.Quat{{W: 1, Den: 1}}
	for i := 0; i < len(group); i++ {
		for _, u := range units {
			product, _ := algebra.Mul(a, group[i], u)
			if !slices.Contains(group, product) {
				group = append(group, product)
			}
		}
	}
	return group
}

// Generators returns, of the units in their order, those that are not products of the ones before and their inverses.
func Generators(a api.Algebra, l api.Lattice) ([]api.Quat, api.Errno) {
	units, e := Units(a, l)
	if e != api.OK {
		return nil, e
	}
	var list []api.Quat
	group := generated(a, nil)
	for _, u := range units {
		if !slices.Contains(group, u) {
			list = append(list, u)
			group = generated(a, list)
		}
	}
	return list, api.OK
}
