package quadratic_test

import (
	"fmt"
	"reflect"
	"testing"

	"fourfold/api"
	"fourfold/ideal"
	"fourfold/order"
	"fourfold/quadratic"
)

// The tests of this file are those of R1 to R4, R7 and R8: the first errors, zero values beside them, no panics, no shared memory, the same results again, nil as good as empty, lattices by their values.

// arguments are what a function of the package is called with.
type arguments struct {
	f, g api.Form
	x    []int
	t    [][]int
	n, k int
	a    api.Algebra
	l    api.Lattice
}

// function is a function of the package: how many forms it is given, and how it is called.
type function struct {
	forms int
	call  func(x arguments) []any
}

// functions are all functions of the package.
var functions = map[string]function{
	"Check":            {1, func(x arguments) []any { return all(quadratic.Check(x.f)) }},
	"Value":            {1, func(x arguments) []any { return all(quadratic.Value(x.f, x.x)) }},
	"Det":              {1, func(x arguments) []any { return all(quadratic.Det(x.f)) }},
	"Level":            {1, func(x arguments) []any { return all(quadratic.Level(x.f)) }},
	"Content":          {1, func(x arguments) []any { return all(quadratic.Content(x.f)) }},
	"Apply":            {1, func(x arguments) []any { return all(quadratic.Apply(x.f, x.t)) }},
	"Short":            {1, func(x arguments) []any { return all(quadratic.Short(x.f, x.n)) }},
	"Represent":        {1, func(x arguments) []any { return all(quadratic.Represent(x.f, x.n)) }},
	"Theta":            {1, func(x arguments) []any { return all(quadratic.Theta(x.f, x.n)) }},
	"Primitive":        {1, func(x arguments) []any { return all(quadratic.Primitive(x.f, x.n)) }},
	"Minima":           {1, func(x arguments) []any { return all(quadratic.Minima(x.f)) }},
	"Reduce":           {1, func(x arguments) []any { return all(quadratic.Reduce(x.f)) }},
	"Label":            {1, func(x arguments) []any { return all(quadratic.Label(x.f)) }},
	"Equivalence":      {2, func(x arguments) []any { return all(quadratic.Equivalence(x.f, x.g)) }},
	"CheckEquivalence": {2, func(x arguments) []any { return all(quadratic.CheckEquivalence(x.f, x.g, x.t)) }},
	"Automorphisms":    {1, func(x arguments) []any { return all(quadratic.Automorphisms(x.f)) }},
	"Diagonal":         {1, func(x arguments) []any { return all(quadratic.Diagonal(x.f)) }},
	"Hasse":            {1, func(x arguments) []any { return all(quadratic.Hasse(x.f, x.k)) }},
	"Isotropic":        {1, func(x arguments) []any { return all(quadratic.Isotropic(x.f, x.k)) }},
	"Symbol":           {1, func(x arguments) []any { return all(quadratic.Symbol(x.f, x.k)) }},
	"NormForm":         {0, func(x arguments) []any { return all(quadratic.NormForm(x.a, x.l)) }},
	"Ternary":          {0, func(x arguments) []any { return all(quadratic.Ternary(x.a, x.l)) }},
	"Squares":          {0, func(x arguments) []any { return all(quadratic.Squares(x.k, x.n)) }},
	"CountSquares":     {0, func(x arguments) []any { return all(quadratic.CountSquares(x.k, x.n)) }},
}

// formError is the error of a form.
func formError(f api.Form) api.Errno {
	if f.N < 2 || f.N > 4 || len(f.Gram) != f.N {
		return api.ErrShape
	}
	for _, row := range f.Gram {
		if len(row) != f.N {
			return api.ErrShape
		}
	}
	if !fits(f.Gram, most) {
		return api.ErrLarge
	}
	for i, row := range f.Gram {
		for j, n := range row {
			if n != f.Gram[j][i] || i == j && n%2 != 0 {
				return api.ErrForm
			}
		}
	}
	if !isPositive(f.Gram) {
		return api.ErrForm
	}
	return api.OK
}

// firstError is the first error of the forms of a function, or that of the algebra and the lattice.
func firstError(name string, x arguments) api.Errno {
	switch f := functions[name]; {
	case f.forms > 0 && formError(x.f) != api.OK:
		return formError(x.f)
	case f.forms > 1:
		return formError(x.g)
	case name == "NormForm":
		_, e := ideal.Norm(x.a, x.l)
		return e
	case name == "Ternary":
		return order.Check(x.a, x.l)
	}
	return api.OK
}

// strange is a number that is often at the end of some range.
func (n *numbers) strange() int {
	return one(n, 0, 1, -1, 2, 3, -7, 17, 300, 301, most, -most, most+1, 9973, 10007, 100000, 100001, coord, -coord, coord+1, 1000000007, api.MaxEntry, least, least+1, greatest, 1<<32)
}

// strangeMatrix is a matrix, or none.
func (n *numbers) strangeMatrix() matrix {
	var m matrix
	for range n.between(0, 5) {
		var row []int
		for range n.between(1, 4) {
			row = append(row, one(n, n.strange(), n.between(-3, 3)))
		}
		m = append(m, row)
	}
	return m
}

// strangeArguments are arguments, many of them right ones.
func (n *numbers) strangeArguments() arguments {
	x := arguments{f: n.any(), n: n.between(0, 40), k: one(n, 0, 2, 3, 4, 5, 7, 11, 101), a: n.definite(12)}
	x.g, x.t = n.hidden(x.f, n.between(0, 3))
	for range x.f.N {
		x.x = append(x.x, n.between(-9, 9))
	}
	x.l = n.rewritten(one(n, n.lattice(x.a), n.order(x.a)))
	switch n.between(0, 19) {
	case 0:
		x.f = api.Form{N: n.between(1, 5), Gram: n.strangeMatrix()}
	case 1:
		x.g = api.Form{N: n.between(1, 5), Gram: n.strangeMatrix()}
	case 2:
		x.f.Gram[n.between(0, x.f.N-1)][n.between(0, x.f.N-1)] = n.strange()
	case 3:
		x.g.Gram[n.between(0, x.g.N-1)][n.between(0, x.g.N-1)] = n.strange()
	case 4:
		x.f.N = n.strange()
	case 5:
		x.t = n.strangeMatrix()
	case 6:
		x.t[n.between(0, len(x.t)-1)][0] = n.strange()
	case 7:
		x.x = append(x.x, n.strange())
	case 8:
		x.x[0] = n.strange()
	case 9:
		x.n, x.k = n.strange(), n.strange()
	case 10:
		x.a.A = n.strange()
	case 11:
		x.l.Rows[0][n.between(0, 3)] = n.strange()
	case 12:
		x.l = api.Lattice{Dim: n.between(0, 5), Rows: n.strangeMatrix(), Den: n.strange()}
	case 13:
		x.g = n.any()
	}
	return x
}

// stretch is the memory of a slice, up to its capacity.
type stretch struct{ from, to uintptr }

// stretches are those of all slices in v.
func stretches(v reflect.Value) []stretch {
	var list []stretch
	switch v.Kind() {
	case reflect.Interface:
		return stretches(v.Elem())
	case reflect.Struct:
		for i := range v.NumField() {
			list = append(list, stretches(v.Field(i))...)
		}
	case reflect.Slice:
		if v.Cap() > 0 {
			list = append(list, stretch{v.Pointer(), v.Pointer() + uintptr(v.Cap())*v.Type().Elem().Size()})
		}
		if kind := v.Type().Elem().Kind(); kind != reflect.Slice && kind != reflect.Struct {
			return list
		}
		for i := range v.Len() {
			list = append(list, stretches(v.Index(i))...)
		}
	}
	return list
}

// wantApart checks that no two slices share memory.
func wantApart(t *testing.T, what string, results []any, x arguments) {
	t.Helper()
	const enough = 400
	var list []stretch
	for _, r := range results {
		list = append(list, stretches(reflect.ValueOf(r))...)
	}
	list = list[:min(len(list), enough)]
	own := len(list)
	list = append(list, stretches(reflect.ValueOf(x))...)
	for i, a := range list[:own] {
		for _, b := range list[i+1:] {
			if a.from < b.to && b.from < a.to {
				t.Fatalf("%s: shared memory", what)
			}
		}
	}
}

func TestStrangeArguments(t *testing.T) {
	n := numbers(80)
	right := map[string]int{}
	for range 500 {
		seed := n
		x := n.strangeArguments()
		for name, f := range functions {
			results := f.call(x)
			e := results[len(results)-1].(api.Errno)
			if first := firstError(name, x); first != api.OK {
				want(t, fmt.Sprint(name, " ", x), e, first)
			}
			if e != api.OK {
				wantError(t, fmt.Sprint(name, " ", x), e, results...)
			} else {
				right[name]++
			}
			wantApart(t, name, results, x)
			if again := f.call(x); !reflect.DeepEqual(results, again) {
				t.Fatalf("%s: %v, and then %v", name, results, again)
			}
		}
		if fresh := seed; !reflect.DeepEqual(x, fresh.strangeArguments()) {
			t.Fatalf("an argument has been changed: %v", x)
		}
	}
	for name := range functions {
		if right[name] < 50 {
			t.Errorf("%s has had only %d results", name, right[name])
		}
	}
}

func TestLatticesAreReadByValue(t *testing.T) {
	n := numbers(81)
	for range 60 {
		x := n.strangeArguments()
		if _, e := ideal.Norm(x.a, x.l); e != api.OK {
			continue
		}
		y := x
		y.l = n.rewritten(x.l)
		for _, name := range []string{"NormForm", "Ternary"} {
			if a, b := fmt.Sprint(functions[name].call(x)...), fmt.Sprint(functions[name].call(y)...); a != b {
				t.Errorf("%s %v: %s, but %s with the rows %v", name, x, a, b, y.l)
			}
		}
	}
}

func TestNilAndEmpty(t *testing.T) {
	for name, f := range functions {
		for _, form := range [][2]api.Form{{{N: 2}, {N: 2, Gram: matrix{}}}, {{}, {Gram: matrix{}}}, {{N: 2, Gram: make(matrix, 2)}, {N: 2, Gram: matrix{{}, {}}}}, {hexagonal(), hexagonal()}} {
			none := arguments{f: form[0], g: form[0], a: hamilton, l: api.Lattice{Dim: 4, Den: 1}}
			empty := arguments{f: form[1], g: form[1], x: []int{}, t: matrix{}, a: hamilton, l: api.Lattice{Dim: 4, Rows: matrix{}, Den: 1}}
			if a, b := fmt.Sprint(f.call(none)...), fmt.Sprint(f.call(empty)...); a != b {
				t.Errorf("%s: %s, but %s for nil", name, b, a)
			}
		}
	}
}
