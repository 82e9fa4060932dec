package brandt_test

import (
	"fmt"
	"reflect"
	"testing"

	"fourfold/algebra"
	"fourfold/api"
	"fourfold/brandt"
	"fourfold/ideal"
	"fourfold/lattice"
)

// The tests of this file are those of R1 to R4, R7 and R8: the first errors, zero values beside them, no panics, no shared memory, the same results again, nil as good as empty, lattices and fractions by their values.

// arguments are what a function of the package is called with.
type arguments struct {
	a        api.Algebra
	l        api.Lattice
	c, d     api.Classes
	n, k     int
	m, other [][]int
	p, q     []api.Int
	x, y     api.Frac
	list     []api.Enclosure
}

// functions are all functions of the package.
var functions = map[string]func(x arguments) []any{
	"Theta":           func(x arguments) []any { return all(brandt.Theta(x.a, x.l, x.n)) },
	"Matrix":          func(x arguments) []any { return all(brandt.Matrix(x.a, x.c, x.n)) },
	"RowSum":          func(x arguments) []any { return all(brandt.RowSum(x.k, x.n)) },
	"Times":           func(x arguments) []any { return all(brandt.Times(x.m, x.other)) },
	"Characteristic":  func(x arguments) []any { return all(brandt.Characteristic(x.m)) },
	"Value":           func(x arguments) []any { return all(brandt.Value(x.p, x.x)) },
	"Divide":          func(x arguments) []any { return all(brandt.Divide(x.p, x.q)) },
	"Squarefree":      func(x arguments) []any { return all(brandt.Squarefree(x.p)) },
	"Sturm":           func(x arguments) []any { return all(brandt.Sturm(x.p)) },
	"Between":         func(x arguments) []any { return all(brandt.Between(x.p, x.x, x.y)) },
	"Enclose":         func(x arguments) []any { return all(brandt.Enclose(x.p, x.n)) },
	"CheckEnclosures": func(x arguments) []any { return all(brandt.CheckEnclosures(x.p, x.list)) },
	"Kernel":          func(x arguments) []any { return all(brandt.Kernel(x.m, x.k)) },
	"Eisenstein":      func(x arguments) []any { return all(brandt.Eisenstein(x.c)) },
	"Cuspidal":        func(x arguments) []any { return all(brandt.Cuspidal(x.a, x.c, x.n)) },
	"New":             func(x arguments) []any { return all(brandt.New(x.a, x.c, x.d, x.n)) },
	"ClassNumber":     func(x arguments) []any { return all(brandt.ClassNumber(x.k)) },
	"Trace":           func(x arguments) []any { return all(brandt.Trace(x.k, x.n)) },
}

// first is the first error of a list.
func first(list ...api.Errno) api.Errno {
	for _, e := range list {
		if e != api.OK {
			return e
		}
	}
	return api.OK
}

// outside is ErrRange if n is not from low to high.
func outside(n, low, high int) api.Errno {
	if n < low || n > high {
		return api.ErrRange
	}
	return api.OK
}

// polyError is the error of a polynomial.
func polyError(p []api.Int) api.Errno {
	e := api.ErrZero
	for _, x := range p {
		b := toBig(x)
		if b.BitLen() > 1000 {
			return api.ErrLarge
		}
		if b.Sign() != 0 {
			e = api.OK
		}
	}
	if len(p) > 61 {
		return api.ErrLarge
	}
	return e
}

// fracError is the error of a fraction.
func fracError(x api.Frac) api.Errno {
	switch {
	case x.Den < 1:
		return api.ErrForm
	case x.Den > billion || x.Num > billion || x.Num < -billion:
		return api.ErrLarge
	}
	return api.OK
}

// matrixError is the error of a matrix.
func matrixError(m [][]int) api.Errno {
	e := api.OK
	for _, row := range m {
		if len(row) != len(m) {
			return api.ErrShape
		}
		for _, n := range row {
			e = first(e, outside(n, -million, million))
		}
	}
	switch {
	case len(m) == 0:
		return api.ErrShape
	case len(m) > 60:
		return api.ErrLarge
	}
	return e
}

// classesError is that of a class set and a number.
func classesError(a api.Algebra, c api.Classes, n int) api.Errno {
	e := first(ideal.CheckClasses(a, c), outside(n, 1, 50))
	if e == api.OK && common(n, c.Level) > 1 {
		return api.ErrPrime
	}
	return e
}

// firstError is the first of the errors of a function that the chapter lists for its arguments, but for the last ones of some functions.
func firstError(name string, x arguments) api.Errno {
	switch name {
	case "Theta":
		_, e := ideal.Norm(x.a, x.l)
		definite := api.OK
		if is, f := algebra.Definite(x.a); f == api.OK && !is {
			definite = api.ErrDefinite
		}
		return first(algebra.Check(x.a), definite, e, outside(x.n, 0, 200))
	case "Matrix", "Cuspidal":
		return classesError(x.a, x.c, x.n)
	case "New":
		return first(classesError(x.a, x.c, x.n), classesError(x.a, x.d, x.n))
	case "RowSum":
		return first(outside(x.k, 1, million), outside(x.n, 1, million))
	case "Times":
		return first(matrixError(x.m), matrixError(x.other))
	case "Characteristic":
		return matrixError(x.m)
	case "Kernel":
		return first(matrixError(x.m), outside(x.k, -million, million))
	case "Value":
		return first(polyError(x.p), fracError(x.x))
	case "Divide":
		return first(polyError(x.p), polyError(x.q))
	case "Squarefree", "Sturm":
		return polyError(x.p)
	case "Between":
		return first(polyError(x.p), fracError(x.x), fracError(x.y))
	case "Enclose":
		return first(polyError(x.p), outside(x.n, 1, 1000))
	case "CheckEnclosures":
		return first(polyError(x.p), listError(x.list))
	case "ClassNumber":
		return outside(x.k, 0, million)
	case "Trace":
		return first(outside(x.n, 1, 1000), outside(x.k, 2, 1000))
	}
	return api.OK
}

// listError is the error of a list of enclosures, without a polynomial.
func listError(list []api.Enclosure) api.Errno {
	if len(list) > 61 {
		return api.ErrLarge
	}
	for _, c := range list {
		if e := first(fracError(c.Lo), fracError(c.Hi)); e != api.OK {
			return e
		}
	}
	return api.OK
}

// strange is a number that is often at the end of some range.
func (n *numbers) strange() int {
	return one(n, 0, 1, -1, 2, 3, -7, 24, 25, 50, 51, 60, 200, 201, 1000, 1001, million, -million, million+1, -million-1, billion, billion+1, -billion-1, least, least+1, greatest, 1<<32)
}

// strangeArguments are arguments, many of them right ones, from a list of class sets.
func (n *numbers) strangeArguments(sets []arguments) arguments {
	x := one(n, sets...)
	x.l = n.rewritten(one(n, x.c.Ideals...))
	x.n, x.k = n.between(1, 50), one(n, n.between(-5, 40), 2, 3, 7, 11)
	size := n.between(1, 5)
	x.m, x.other = n.matrix(size, 4), n.matrix(size, 9)
	r := n.rooted(20)
	q := n.rooted(5)
	x.p, x.q = loose(n, r.p.times(q.p)), loose(n, q.p)
	x.x, x.y = api.Frac{Num: n.between(-9, 5), Den: n.between(1, 9)}, api.Frac{Num: n.between(-2, 9), Den: n.between(1, 9)}
	for k := range q.roots {
		r.add(polyOf(1), 1, q.roots[k])
	}
	x.list = r.enclosures(n.between(1, 9))
	n.spoil(&x)
	return x
}

// spoil makes one of the arguments strange, or none.
func (n *numbers) spoil(x *arguments) {
	switch n.between(0, 18) {
	case 0:
		x.a = api.Algebra{A: n.strange(), B: n.strange()}
	case 1:
		x.l.Den = n.strange()
	case 2:
		x.l.Rows[n.between(0, len(x.l.Rows)-1)][n.between(0, 3)] = n.strange()
	case 3:
		x.c.Disc = n.strange()
	case 4:
		x.c.Units = append(append([]int{}, x.c.Units...), n.strange())
	case 5:
		x.d.Level, x.c.Units = n.strange(), nil
	case 6:
		x.n = n.strange()
	case 7:
		x.k = n.strange()
	case 8:
		x.m[0][0] = n.strange()
	case 9:
		x.other[len(x.other)-1][0] = n.strange()
	case 10:
		x.m = append(x.m, nil)
	case 11:
		x.other = nil
	case 12:
		x.p = append(x.p, api.Int{Neg: true, Words: make([]uint32, n.between(0, 40))})
		x.p[len(x.p)-1].Words = append(x.p[len(x.p)-1].Words, uint32(n.next()))
	case 13:
		x.q, x.p = make([]api.Int, n.between(0, 70)), append(x.p, make([]api.Int, n.between(0, 70))...)
	case 14:
		x.x = api.Frac{Num: n.strange(), Den: n.strange()}
	case 15:
		x.y = api.Frac{Num: n.strange(), Den: n.between(-1, 3)}
	case 16:
		x.list = append(x.list, api.Enclosure{Lo: api.Frac{Num: n.strange(), Den: 1}, Hi: api.Frac{Num: n.strange(), Den: n.strange()}, Count: n.strange()})
	}
}

// copied is v in other memory.
func copied[T any](v T) T {
	return clone(reflect.ValueOf(v)).Interface().(T)
}

// clone is v in other memory.
func clone(v reflect.Value) reflect.Value {
	w := reflect.New(v.Type()).Elem()
	switch v.Kind() {
	case reflect.Struct:
		for i := range v.NumField() {
			w.Field(i).Set(clone(v.Field(i)))
		}
	case reflect.Slice:
		if v.IsNil() {
			return w
		}
		w.Set(reflect.MakeSlice(v.Type(), v.Len(), v.Len()))
		for i := range v.Len() {
			w.Index(i).Set(clone(v.Index(i)))
		}
	default:
		w.Set(v)
	}
	return w
}

// parts are the fields of arguments as a list that reflection may copy.
func (x arguments) parts() []any {
	return []any{x.a, x.l, x.c, x.d, x.n, x.k, x.m, x.other, x.p, x.q, x.x, x.y, x.list}
}

// stretch is the memory of a slice, up to its capacity.
type stretch struct{ from, to uintptr }

// stretches are those of all slices in v.
func stretches(v reflect.Value) []stretch {
	var list []stretch
	switch v.Kind() {
	case reflect.Interface:
		return stretches(v.Elem())
	case reflect.Struct:
		for i := range v.NumField() {
			list = append(list, stretches(v.Field(i))...)
		}
	case reflect.Slice:
		if v.Cap() > 0 {
			list = append(list, stretch{v.Pointer(), v.Pointer() + uintptr(v.Cap())*v.Type().Elem().Size()})
		}
		for i := range v.Len() {
			list = append(list, stretches(v.Index(i))...)
		}
	}
	return list
}

// wantApart checks that no two slices share memory.
func wantApart(t *testing.T, what string, results []any, x arguments) {
	t.Helper()
	var list []stretch
	for _, r := range results {
		list = append(list, stretches(reflect.ValueOf(r))...)
	}
	own := len(list)
	list = append(list, stretches(reflect.ValueOf(x))...)
	for i, a := range list[:own] {
		for _, b := range list[i+1:] {
			if a.from < b.to && b.from < a.to {
				t.Fatalf("%s: shared memory", what)
			}
		}
	}
}

// someSets are class sets, of which that of c belongs to a greater level than that of d.
func someSets(t *testing.T) []arguments {
	t.Helper()
	var list []arguments
	for _, g := range []genus{{hamilton, 7}, {eleven, 2}, {eleven, 3}, {thirty, 7}} {
		list = append(list, arguments{a: g.a, c: classes(t, g.a, g.level), d: classes(t, g.a, 1)})
	}
	return list
}

func TestStrangeArguments(t *testing.T) {
	n := numbers(150)
	sets := someSets(t)
	right := map[string]int{}
	for range 200 {
		x := n.strangeArguments(sets)
		var before []any
		for _, part := range x.parts() {
			before = append(before, clone(reflect.ValueOf(part)).Interface())
		}
		for name, call := range functions {
			results := call(x)
			e := results[len(results)-1].(api.Errno)
			if f := firstError(name, x); f != api.OK {
				want(t, fmt.Sprint(name, " ", x), e, f)
			}
			if e != api.OK {
				wantError(t, fmt.Sprint(name, " ", x), e, results...)
			} else {
				right[name]++
			}
			wantApart(t, name, results, x)
			if again := call(x); !reflect.DeepEqual(results, again) {
				t.Fatalf("%s: %v, and then %v", name, results, again)
			}
		}
		if !reflect.DeepEqual(x.parts(), before) {
			t.Fatalf("an argument has been changed: %v", x)
		}
	}
	for name := range functions {
		if right[name] < 50 {
			t.Errorf("%s has had only %d results", name, right[name])
		}
	}
}

func TestArgumentsAreReadByValue(t *testing.T) {
	n := numbers(151)
	sets := someSets(t)
	for range 60 {
		x := n.strangeArguments(sets)
		y := x
		if _, e := lattice.Normal(x.l); e == api.OK {
			y.l = n.rewritten(x.l)
			if lattice.Check(y.l) != api.OK {
				continue
			}
		}
		if ideal.CheckClasses(x.a, x.c) == api.OK {
			y.c.Order = n.rewritten(x.c.Order)
		}
		for _, f := range []*api.Frac{&y.x, &y.y} {
			if fracError(*f) == api.OK && fracError(api.Frac{Num: 6 * f.Num % greatest, Den: 6 * f.Den}) == api.OK {
				*f = api.Frac{Num: 6 * f.Num, Den: 6 * f.Den}
			}
		}
		y.list = copied(x.list)
		for i, c := range y.list {
			if fracError(c.Lo) == api.OK && c.Lo.Num < million && c.Lo.Num > -million && c.Lo.Den < million {
				y.list[i].Lo = api.Frac{Num: 10 * c.Lo.Num, Den: 10 * c.Lo.Den}
			}
		}
		for name, call := range functions {
			if a, b := fmt.Sprint(call(x)...), fmt.Sprint(call(y)...); a != b {
				t.Errorf("%s %v: %s, but %s of %v", name, x, a, b, y)
			}
		}
	}
}

func TestNilAndEmpty(t *testing.T) {
	for name, call := range functions {
		for _, p := range [][2][]api.Int{{nil, {}}, {{toInt(power(3, 1))}, {toInt(power(3, 1))}}} {
			none := arguments{a: hamilton, l: api.Lattice{Dim: 4, Den: 1}, c: api.Classes{Order: hurwitz, Disc: 2, Level: 1}, n: 1, p: p[0]}
			empty := none
			empty.l.Rows, empty.c.Ideals, empty.c.Units, empty.m, empty.other = [][]int{}, []api.Lattice{}, []int{}, [][]int{}, [][]int{}
			empty.p, empty.q, empty.list = p[1], []api.Int{}, []api.Enclosure{}
			if a, b := fmt.Sprint(call(none)...), fmt.Sprint(call(empty)...); a != b {
				t.Errorf("%s: %s, but %s for nil", name, b, a)
			}
		}
	}
}

// Results of numbers that share nothing with those of the chain before them, also where polynomials are divided by 1.
func TestResultsAreNew(t *testing.T) {
	p := polyOf(-2, 0, 1).ints()
	for name, call := range map[string]func() []any{
		"Divide":     func() []any { return all(brandt.Divide(p, polyOf(1).ints())) },
		"Squarefree": func() []any { return all(brandt.Squarefree(p)) },
		"Sturm":      func() []any { return all(brandt.Sturm(p)) },
	} {
		results := call()
		wantApart(t, name, results, arguments{p: p})
		before := fmt.Sprint(call()...)
		for _, list := range stretchesOf(results) {
			for i := range list {
				list[i] = 77
			}
		}
		want(t, name+" again", fmt.Sprint(call()...), before)
	}
}

// stretchesOf are the words of all integers of results.
func stretchesOf(results []any) [][]uint32 {
	var list [][]uint32
	for _, r := range results {
		switch x := r.(type) {
		case []api.Int:
			for _, n := range x {
				list = append(list, n.Words)
			}
		case [][]api.Int:
			for _, p := range x {
				for _, n := range p {
					list = append(list, n.Words)
				}
			}
		}
	}
	return list
}
