package rotation_test

import (
	"fmt"
	"reflect"
	"testing"

	"fourfold/algebra"
	"fourfold/api"
	"fourfold/rotation"
)

// The tests of this file are those of R1 to R4, R7 and R8: the first errors, zero values beside them, no panics, no shared memory, the same results again, nil as good as empty, elements by their values.

// arguments are what a function of the package is called with.
type arguments struct {
	x, y        api.Quat
	model, word []int
	n, k        int
	r, s        api.Rotation
	l           []api.Frac
	gens        []api.Quat
}

// function is a function of the package: how many Hurwitz quaternions, or quaternions of rotations, it is given first, and how it is called.
type function struct {
	hurwitz, rotations int
	call               func(x arguments) []any
}

// functions are all functions of the package that have errors.
var functions = map[string]function{
	"Norm":          {1, 0, func(x arguments) []any { return all(rotation.Norm(x.x)) }},
	"Times":         {2, 0, func(x arguments) []any { return all(rotation.Times(x.x, x.y)) }},
	"Divide":        {2, 0, func(x arguments) []any { return all(rotation.Divide(x.x, x.y)) }},
	"Gcd":           {2, 0, func(x arguments) []any { return all(rotation.Gcd(x.x, x.y)) }},
	"Canonical":     {1, 0, func(x arguments) []any { return all(rotation.Canonical(x.x)) }},
	"Content":       {1, 0, func(x arguments) []any { return all(rotation.Content(x.x)) }},
	"OfNorm":        {0, 0, func(x arguments) []any { return all(rotation.OfNorm(x.n)) }},
	"Factor":        {1, 0, func(x arguments) []any { return all(rotation.Factor(x.x, x.model)) }},
	"CountFactors":  {1, 0, func(x arguments) []any { return all(rotation.CountFactors(x.x, x.model)) }},
	"Exchange":      {2, 0, func(x arguments) []any { return all(rotation.Exchange(x.x, x.y)) }},
	"Permutation":   {1, 0, func(x arguments) []any { return all(rotation.Permutation(x.x, x.n)) }},
	"CheckRotation": {0, 0, func(x arguments) []any { return all(rotation.CheckRotation(x.r)) }},
	"Matrix":        {0, 1, func(x arguments) []any { return all(rotation.Matrix(x.x)) }},
	"Quaternion":    {0, 0, func(x arguments) []any { return all(rotation.Quaternion(x.r)) }},
	"Compose":       {0, 0, func(x arguments) []any { return all(rotation.Compose(x.r, x.s)) }},
	"Rodrigues":     {0, 1, func(x arguments) []any { return all(rotation.Rodrigues(x.x)) }},
	"FromRodrigues": {0, 0, func(x arguments) []any { return all(rotation.FromRodrigues(x.l)) }},
	"Cosine":        {0, 1, func(x arguments) []any { return all(rotation.Cosine(x.x)) }},
	"Coincidence":   {0, 1, func(x arguments) []any { return all(rotation.Coincidence(x.k, x.x)) }},
	"Word":          {0, 1, func(x arguments) []any { return all(rotation.Word(x.x, x.gens, x.k)) }},
	"Evaluate":      {0, 0, func(x arguments) []any { return all(rotation.Evaluate(x.word, x.gens)) }},
	"Group":         {0, 0, func(x arguments) []any { return all(rotation.Group(x.gens, x.n)) }},
}

// hurwitzError is the error of a Hurwitz quaternion.
func hurwitzError(q api.Quat) api.Errno {
	switch {
	case algebra.CheckQuat(q) != api.OK:
		return api.ErrForm
	case !of(q).isHurwitz():
		return api.ErrOrder
	case norm(q) > mostNorm:
		return api.ErrLarge
	}
	return api.OK
}

// turnError is the error of a quaternion of a rotation.
func turnError(q api.Quat) api.Errno {
	switch {
	case algebra.CheckQuat(q) != api.OK:
		return api.ErrForm
	case q.W == 0 && q.X == 0 && q.Y == 0 && q.Z == 0:
		return api.ErrZero
	}
	return api.OK
}

// generatorsError is the error of generators.
func generatorsError(gens []api.Quat) api.Errno {
	if len(gens) < 1 || len(gens) > 6 {
		return api.ErrRange
	}
	for _, g := range gens {
		if e := turnError(g); e != api.OK {
			return e
		}
		if !fits(reduced(g), param) {
			return api.ErrLarge
		}
	}
	return api.OK
}

// rotationError is the error of a rotation.
func rotationError(r api.Rotation) api.Errno {
	if r.Den < 1 || r.Den > coord {
		return api.ErrRange
	}
	for _, row := range r.M {
		for _, n := range row {
			if n > r.Den || n < -r.Den {
				return api.ErrRange
			}
		}
	}
	if !isRotation(r) {
		return api.ErrForm
	}
	return api.OK
}

// firstError is the first error of the quaternions and rotations of a function, in their order.
func firstError(name string, x arguments) api.Errno {
	var list []api.Errno
	switch f := functions[name]; {
	case f.hurwitz == 2:
		list = append(list, hurwitzError(x.x), hurwitzError(x.y))
	case f.hurwitz == 1:
		list = append(list, hurwitzError(x.x))
	case f.rotations == 1:
		list = append(list, turnError(x.x))
	}
	switch name {
	case "CheckRotation", "Quaternion":
		list = append(list, rotationError(x.r))
	case "Compose":
		list = append(list, rotationError(x.r), rotationError(x.s))
	case "Word", "Evaluate", "Group":
		list = append(list, generatorsError(x.gens))
	}
	for _, e := range list {
		if e != api.OK {
			return e
		}
	}
	return api.OK
}

// strange is a number that is often at the end of some range.
func (n *numbers) strange() int {
	return one(n, 0, 1, -1, 2, 3, -7, 60, 61, param, -param, param+1, 500, 501, 9973, coord, -coord, coord+1, -coord-1, 1000000007, least, least+1, greatest, 1<<32)
}

// strangeQuat is an element with such numbers.
func (n *numbers) strangeQuat() api.Quat {
	q := n.some(3)
	for _, c := range []*int{&q.W, &q.X, &q.Y, &q.Z, &q.Den} {
		if n.between(0, 2) == 0 {
			*c = n.strange()
		}
	}
	return q
}

// strangeArguments are arguments, many of them right ones.
func (n *numbers) strangeArguments() arguments {
	x := arguments{n: one(n, 2, 3, 5, 7, 13, 60), k: n.between(0, 2), gens: n.generators(2, 1)}
	x.model = n.model(2, 3, 3, 5, 7)
	x.x, x.y = whole(1, 0, 0, 0), n.filled(2)
	for _, p := range x.model {
		x.x = product(x.x, one(n, made[[]api.Quat](&testing.T{})(rotation.OfNorm(p))...))
	}
	x.x, x.y = n.rewritten(x.x), n.rewritten(x.y)
	x.r, x.s = scaled(matrix(n.some(5)), n.between(1, 5)), matrix(n.some(5))
	for range 3 {
		x.l = append(x.l, api.Frac{Num: n.between(-9, 9), Den: n.between(1, 9)})
	}
	for range n.between(0, 9) {
		x.word = append(x.word, one(n, 1, -1)*n.between(1, len(x.gens)))
	}
	if n.between(0, 2) == 0 {
		x.gens = append(x.gens, x.x)
	}
	n.spoil(&x)
	return x
}

// spoil makes one of the arguments strange, or none.
func (n *numbers) spoil(x *arguments) {
	switch n.between(0, 22) {
	case 0:
		x.x = n.strangeQuat()
	case 1:
		x.y = n.strangeQuat()
	case 2:
		x.x, x.y = n.hurwitz(300), n.hurwitz(300)
	case 3:
		x.x, x.y = n.quat(4), n.quat(3)
	case 4:
		x.x = whole(0, 0, 0, 0)
	case 5:
		x.y = over(5, 0, 0, 0, 0)
	case 6:
		x.model = append(x.model, n.strange())
	case 7:
		x.model[0] = n.strange()
	case 8:
		x.n = n.strange()
	case 9:
		x.k = n.strange()
	case 10:
		x.r.M[n.between(0, 2)][n.between(0, 2)] = n.strange()
	case 11:
		x.s.M[n.between(0, 2)][n.between(0, 2)] = n.strange()
	case 12:
		x.r.Den, x.s.Den = n.strange(), n.strange()
	case 13:
		x.l[n.between(0, 2)] = api.Frac{Num: n.strange(), Den: n.strange()}
	case 14:
		x.l = append(x.l, api.Frac{Num: n.strange(), Den: 1})
	case 15:
		x.gens = append(x.gens, n.strangeQuat())
	case 16:
		x.gens[0] = n.strangeQuat()
	case 17:
		x.word = append(x.word, n.strange())
	case 18:
		x.gens, x.word = nil, nil
	}
}

// stretch is the memory of a slice, up to its capacity.
type stretch struct{ from, to uintptr }

// stretches are those of all slices in v.
func stretches(v reflect.Value) []stretch {
	var list []stretch
	switch v.Kind() {
	case reflect.Interface:
		return stretches(v.Elem())
	case reflect.Struct:
		for i := range v.NumField() {
			list = append(list, stretches(v.Field(i))...)
		}
	case reflect.Slice:
		if v.Cap() > 0 {
			list = append(list, stretch{v.Pointer(), v.Pointer() + uintptr(v.Cap())*v.Type().Elem().Size()})
		}
		for i := range v.Len() {
			list = append(list, stretches(v.Index(i))...)
		}
	}
	return list
}

// wantApart checks that no two slices share memory.
func wantApart(t *testing.T, what string, results []any, x arguments) {
	t.Helper()
	var list []stretch
	for _, r := range results {
		list = append(list, stretches(reflect.ValueOf(r))...)
	}
	own := len(list)
	list = append(list, stretches(reflect.ValueOf(x))...)
	for i, a := range list[:own] {
		for _, b := range list[i+1:] {
			if a.from < b.to && b.from < a.to {
				t.Fatalf("%s: shared memory", what)
			}
		}
	}
}

func TestStrangeArguments(t *testing.T) {
	n := numbers(90)
	right := map[string]int{}
	for range 2000 {
		seed := n
		x := n.strangeArguments()
		for name, f := range functions {
			results := f.call(x)
			e := results[len(results)-1].(api.Errno)
			if first := firstError(name, x); first != api.OK {
				want(t, fmt.Sprint(name, " ", x), e, first)
			}
			if e != api.OK {
				wantError(t, fmt.Sprint(name, " ", x), e, results...)
			} else {
				right[name]++
			}
			wantApart(t, name, results, x)
			if again := f.call(x); !reflect.DeepEqual(results, again) {
				t.Fatalf("%s: %v, and then %v", name, results, again)
			}
		}
		if fresh := seed; !reflect.DeepEqual(x, fresh.strangeArguments()) {
			t.Fatalf("an argument has been changed: %v", x)
		}
	}
	for name := range functions {
		if right[name] < 200 {
			t.Errorf("%s has had only %d results", name, right[name])
		}
	}
}

func TestElementsAreReadByValue(t *testing.T) {
	n := numbers(91)
	for range 300 {
		x := n.strangeArguments()
		if algebra.CheckQuat(x.x) != api.OK || algebra.CheckQuat(x.y) != api.OK || generatorsError(x.gens) != api.OK {
			continue
		}
		y := x
		y.x, y.y = of(x.x).quat(), of(x.y).quat()
		y.gens = nil
		for _, g := range x.gens {
			y.gens = append(y.gens, of(g).quat())
		}
		for name, f := range functions {
			if a, b := fmt.Sprint(f.call(x)...), fmt.Sprint(f.call(y)...); a != b {
				t.Errorf("%s %v: %s, but %s with the elements in lowest terms", name, x, a, b)
			}
		}
	}
}

func TestNilAndEmpty(t *testing.T) {
	for name, f := range functions {
		for _, gens := range [][2][]api.Quat{{nil, {}}, {{whole(1, 1, 0, 0)}, {whole(1, 1, 0, 0)}}} {
			none := arguments{x: whole(1, 0, 0, 0), y: whole(1, 0, 0, 0), n: 3, gens: gens[0]}
			empty := none
			empty.model, empty.word, empty.l, empty.gens = []int{}, []int{}, []api.Frac{}, gens[1]
			if a, b := fmt.Sprint(f.call(none)...), fmt.Sprint(f.call(empty)...); a != b {
				t.Errorf("%s: %s, but %s for nil", name, b, a)
			}
		}
	}
}

func TestUnitsAreNew(t *testing.T) {
	units := rotation.Units()
	units[0] = api.Quat{}
	want(t, "the first unit", rotation.Units()[0], whole(1, 0, 0, 0))
}
