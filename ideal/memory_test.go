package ideal_test

import (
	"fmt"
	"reflect"
	"testing"

	"fourfold/algebra"
	"fourfold/api"
	"fourfold/ideal"
	"fourfold/order"
)

// The tests of this file are those of R1 to R4 and R7 to R8: the first errors, zero values beside them, no panics, no shared memory, the same results again, nil as good as empty, lattices by their values.

// arguments are what a function of the package is called with.
type arguments struct {
	a       api.Algebra
	l, m    api.Lattice
	q       api.Quat
	n, k    int
	f       api.Frac
	classes api.Classes
}

// function is a function of the package: whether it is one for definite algebras, its lattices, and how it is called.
type function struct {
	definite bool
	lattices func(x arguments) []api.Lattice
	call     func(x arguments) []any
}

func none(arguments) []api.Lattice { return nil }

func first(x arguments) []api.Lattice { return []api.Lattice{x.l} }

func both(x arguments) []api.Lattice { return []api.Lattice{x.l, x.m} }

// functions are all functions of the package but Mass.
var functions = map[string]function{
	"LeftOrder":    {false, first, func(x arguments) []any { return all(ideal.LeftOrder(x.a, x.l)) }},
	"RightOrder":   {false, first, func(x arguments) []any { return all(ideal.RightOrder(x.a, x.l)) }},
	"Norm":         {false, first, func(x arguments) []any { return all(ideal.Norm(x.a, x.l)) }},
	"Conjugate":    {false, first, func(x arguments) []any { return all(ideal.Conjugate(x.a, x.l)) }},
	"Inverse":      {false, first, func(x arguments) []any { return all(ideal.Inverse(x.a, x.l)) }},
	"Product":      {false, both, func(x arguments) []any { return all(ideal.Product(x.a, x.l, x.m)) }},
	"Times":        {false, none, func(x arguments) []any { return all(ideal.Times(x.a, x.q, x.l)) }},
	"Connecting":   {false, none, func(x arguments) []any { return all(ideal.Connecting(x.a, x.l, x.m)) }},
	"Check":        {false, none, func(x arguments) []any { return all(ideal.Check(x.a, x.l, x.m)) }},
	"Index":        {false, both, func(x arguments) []any { return all(ideal.Index(x.a, x.l, x.m)) }},
	"Elements":     {true, first, func(x arguments) []any { return all(ideal.Elements(x.a, x.l, x.f)) }},
	"Maps":         {true, both, func(x arguments) []any { return all(ideal.Maps(x.a, x.l, x.m)) }},
	"Equivalent":   {true, both, func(x arguments) []any { return all(ideal.Equivalent(x.a, x.l, x.m)) }},
	"Principal":    {true, first, func(x arguments) []any { return all(ideal.Principal(x.a, x.l)) }},
	"OfNorm":       {false, first, func(x arguments) []any { return all(ideal.OfNorm(x.a, x.l, x.n)) }},
	"ClassSet":     {true, none, func(x arguments) []any { return all(ideal.ClassSet(x.a, x.l)) }},
	"CheckClasses": {true, none, func(x arguments) []any { return all(ideal.CheckClasses(x.a, x.classes)) }},
	"ClassOf":      {true, none, func(x arguments) []any { return all(ideal.ClassOf(x.a, x.classes, x.l)) }},
	"Types":        {true, none, func(x arguments) []any { return all(ideal.Types(x.a, x.classes)) }},
}

// firstError is the first error of the algebra and the lattices of a function.
func (f function) firstError(x arguments) api.Errno {
	if e := algebra.Check(x.a); e != api.OK {
		return e
	}
	if f.definite && (x.a.A > 0 || x.a.B > 0) {
		return api.ErrDefinite
	}
	for _, l := range f.lattices(x) {
		if e := latticeError(l); e != api.OK {
			return e
		}
	}
	return api.OK
}

// latticeError is the error of a lattice.
func latticeError(l api.Lattice) api.Errno {
	switch {
	case l.Dim < 1 || l.Dim > api.MaxDim || l.Den < 1 || l.Den > api.MaxEntry:
		return api.ErrRange
	case len(l.Rows) > api.MaxRows:
		return api.ErrLarge
	}
	for _, r := range l.Rows {
		if len(r) != l.Dim {
			return api.ErrShape
		}
		for _, n := range r {
			if n < -api.MaxEntry || n > api.MaxEntry {
				return api.ErrRange
			}
		}
	}
	if l.Dim != 4 || slowRows(l).canonical() == nil {
		return api.ErrShape
	}
	if _, fits := slowRows(l).small(); !fits {
		return api.ErrLarge
	}
	return api.OK
}

// badLattices are lattices of which each has another reason for its error.
var badLattices = []api.Lattice{
	{}, {Dim: 7, Den: 1}, {Dim: -1, Den: 1}, {Dim: 4, Rows: lipschitz.Rows}, {Dim: 4, Rows: lipschitz.Rows, Den: -1}, {Dim: 4, Rows: lipschitz.Rows, Den: api.MaxEntry + 1},
	{Dim: 4, Rows: make([][]int, 65), Den: 1}, {Dim: 4, Rows: [][]int{{1, 0, 0}}, Den: 1}, of(1, [4]int{1}, [4]int{least}), of(1, [4]int{0, api.MaxEntry + 1}),
	{Dim: 3, Rows: [][]int{{1, 0, 0}, {0, 1, 0}, {0, 0, 1}}, Den: 1}, {Dim: 5, Rows: [][]int{{1, 0, 0, 0, 0}}, Den: 1}, of(1), of(1, [4]int{1, 2, 3, 4}, [4]int{0, 1, 0, 0}, [4]int{0, 0, 1, 0}, [4]int{1, 3, 4, 4}), of(coord+1, [4]int{1, 0, 0, 0}, [4]int{0, 0, 0, 1}),
	of(coord+1, lipschitzRows()...), of(1, [4]int{coord + 1, 0, 0, 0}, [4]int{0, 1, 0, 0}, [4]int{0, 0, 1, 0}, [4]int{0, 0, 0, 1}), of(1, [4]int{1, 2, 3, 4}, [4]int{api.MaxEntry, 7, 0, 0}, [4]int{0, 5, api.MaxEntry, 1}, [4]int{1, 0, 1, api.MaxEntry}),
}

func TestFirstErrors(t *testing.T) {
	lattices := append([]api.Lattice{lipschitz, hurwitz, of(coord, lipschitzRows()...), of(api.MaxEntry, [4]int{api.MaxEntry}, [4]int{0, api.MaxEntry}, [4]int{0, 0, -api.MaxEntry}, [4]int{0, 0, 0, api.MaxEntry})}, badLattices...)
	seen := map[api.Errno]int{}
	for _, l := range lattices {
		seen[latticeError(l)]++
	}
	want(t, "good lattices", seen[api.OK], 4)
	want(t, "kinds of lattices", len(seen), 4)
	for name, f := range functions {
		for _, a := range []api.Algebra{matrices, hamilton, six, {A: 5, B: -1}, {}, {A: 1}, {B: 1}, {A: 1001, B: 1}, {A: -1, B: -1001}} {
			for _, l := range lattices {
				for _, m := range lattices {
					x := arguments{a: a, l: l, m: m, n: -1, f: api.Frac{Num: -1}}
					if e := f.firstError(x); e != api.OK {
						wantError(t, fmt.Sprint(name, " ", x), e, f.call(x)...)
					}
				}
			}
		}
	}
}

// strange is a number that is often at the end of some range.
func (n *numbers) strange() int {
	list := []int{0, 1, -1, 2, 3, -7, 17, 50, 51, 1000, -1000, 1001, 2000, 2001, coord, -coord, coord + 1, 1000000007, api.MaxEntry, -api.MaxEntry, api.MaxEntry + 1, least, least + 1, greatest, 1 << 32}
	return list[n.between(0, len(list)-1)]
}

// either is a strange number, or more often one of a mild range.
func (n *numbers) either(most int) int {
	if n.between(0, 5) == 0 {
		return n.strange()
	}
	return n.between(-most, most)
}

// strangeLattice is a lattice, or none.
func (n *numbers) strangeLattice() api.Lattice {
	l := api.Lattice{Dim: 4, Den: n.either(3)}
	if n.between(0, 9) == 0 {
		l.Dim = n.either(7)
	}
	for range n.between(0, 6) {
		l.Rows = append(l.Rows, []int{n.either(3), n.either(3), n.either(3), n.either(3)})
	}
	if len(l.Rows) > 0 && n.between(0, 9) == 0 {
		l.Rows[0] = append(l.Rows[0], 1)
	}
	return l
}

// strangeArguments are arguments, many of them right ones.
func (n *numbers) strangeArguments() arguments {
	x := arguments{a: n.definite(9), q: n.quat(5, 2), n: n.either(20), k: n.either(30), f: api.Frac{Num: n.either(30), Den: n.either(3)}}
	if n.between(0, 4) == 0 {
		x.a = n.algebra(20)
	}
	o := n.order(x.a)
	x.classes, _ = ideal.ClassSet(x.a, o)
	x.l, x.m = n.lattice(x.a), n.rewritten(n.lattice(x.a))
	switch n.between(0, 9) {
	case 0:
		x.l = n.strangeLattice()
	case 1:
		x.m = n.strangeLattice()
	case 2:
		x.l.Rows[n.between(0, len(x.l.Rows)-1)][n.between(0, 3)] = n.strange()
	case 3:
		x.q, x.a.A = api.Quat{W: n.strange(), X: n.strange(), Y: n.either(9), Z: n.either(9), Den: n.either(9)}, n.either(9)
	case 4:
		x.classes.Ideals = append(x.classes.Ideals, n.strangeLattice())
	case 5:
		x.classes.Disc, x.classes.Order = n.strange(), n.strangeLattice()
	case 6:
		x.classes.Units = append(x.classes.Units, n.strange())
	default:
		x.l, x.m = o, n.rewritten(o)
		if moved, e := ideal.Times(x.a, x.q, o); e == api.OK && n.between(0, 2) > 0 {
			x.m = moved
		}
	}
	return x
}

// stretch is the memory of a slice, up to its capacity.
type stretch struct{ from, to uintptr }

// stretches are those of all slices in v.
func stretches(v reflect.Value) []stretch {
	var list []stretch
	switch v.Kind() {
	case reflect.Interface:
		return stretches(v.Elem())
	case reflect.Struct:
		for i := range v.NumField() {
			list = append(list, stretches(v.Field(i))...)
		}
	case reflect.Slice:
		if v.Cap() > 0 {
			list = append(list, stretch{v.Pointer(), v.Pointer() + uintptr(v.Cap())*v.Type().Elem().Size()})
		}
		for i := range v.Len() {
			list = append(list, stretches(v.Index(i))...)
		}
	}
	return list
}

// wantApart checks that no two slices share memory.
func wantApart(t *testing.T, what string, results []any, x arguments) {
	t.Helper()
	var list []stretch
	for _, r := range results {
		list = append(list, stretches(reflect.ValueOf(r))...)
	}
	own := len(list)
	list = append(list, stretches(reflect.ValueOf(x))...)
	for i, a := range list[:own] {
		for _, b := range list[i+1:] {
			if a.from < b.to && b.from < a.to {
				t.Fatalf("%s: shared memory", what)
			}
		}
	}
}

func TestStrangeArguments(t *testing.T) {
	n := numbers(60)
	right := map[string]int{}
	for range 400 {
		seed := n
		x := n.strangeArguments()
		for name, f := range functions {
			results := f.call(x)
			e := results[len(results)-1].(api.Errno)
			if first := f.firstError(x); first != api.OK {
				want(t, fmt.Sprint(name, " ", x), e, first)
			}
			if e != api.OK {
				wantError(t, fmt.Sprint(name, " ", x), e, results...)
			} else {
				right[name]++
			}
			wantApart(t, name, results, x)
			if again := f.call(x); !reflect.DeepEqual(results, again) {
				t.Fatalf("%s: %v, and then %v", name, results, again)
			}
		}
		if fresh := seed; !reflect.DeepEqual(x, fresh.strangeArguments()) {
			t.Fatalf("an argument has been changed: %v", x)
		}
		mass, e := ideal.Mass(x.n, x.k)
		if e != api.OK {
			wantError(t, fmt.Sprint("Mass ", x.n, x.k), e, mass, e)
		}
	}
	for name := range functions {
		if right[name] < 30 {
			t.Errorf("%s has had only %d results", name, right[name])
		}
	}
}

func TestLatticesAreReadByValue(t *testing.T) {
	n := numbers(61)
	for range 60 {
		x := n.strangeArguments()
		if latticeError(x.l) != api.OK || latticeError(x.m) != api.OK {
			continue
		}
		y := x
		y.l, y.m = n.rewritten(x.l), n.rewritten(x.m)
		if latticeError(y.l) != api.OK || latticeError(y.m) != api.OK { // some numbers are too large now
			continue
		}
		if order.Check(x.a, x.classes.Order) == api.OK {
			y.classes.Order = n.rewritten(x.classes.Order)
		}
		for name, f := range functions {
			if a, b := fmt.Sprint(f.call(x)...), fmt.Sprint(f.call(y)...); a != b {
				t.Errorf("%s %v: %s, but %s with the rows %v", name, x, a, b, y)
			}
		}
	}
}

func TestNilAndEmpty(t *testing.T) {
	for name, f := range functions {
		none := arguments{a: hamilton, l: api.Lattice{Dim: 4, Den: 1}, classes: api.Classes{Order: hurwitz}}
		empty := arguments{a: hamilton, l: api.Lattice{Dim: 4, Rows: [][]int{}, Den: 1}, classes: api.Classes{Order: hurwitz, Ideals: []api.Lattice{}, Units: []int{}}}
		if a, b := fmt.Sprint(f.call(none)...), fmt.Sprint(f.call(empty)...); a != b {
			t.Errorf("%s: %s, but %s for nil", name, b, a)
		}
	}
}
