package order_test

import (
	"fmt"
	"reflect"
	"testing"

	"fourfold/api"
)

// The tests of this file are those of R1 to R4 and R8: zero values beside errors, no panics, no shared memory, the same results again, nil as good as empty, lattices by their values.

// strange is a number that is often at the end of some range.
func (n *numbers) strange() int {
	list := []int{0, 1, -1, 2, 3, 5, -7, 13, 17, 50, 51, 1000, -1000, 1001, 2000, 2001, coord, -coord, coord + 1, 1000000000, 1000000007, api.MaxEntry, -api.MaxEntry, api.MaxEntry + 1, least, least + 1, greatest, 1 << 32}
	return list[n.between(0, len(list)-1)]
}

// either is a strange number, or more often one of a mild range.
func (n *numbers) either(most int) int {
	if n.between(0, 5) == 0 {
		return n.strange()
	}
	return n.between(-most, most)
}

// strangeLattice is a lattice, or none.
func (n *numbers) strangeLattice() api.Lattice {
	l := api.Lattice{Dim: 4, Den: n.either(3)}
	if n.between(0, 9) == 0 {
		l.Dim = n.either(7)
	}
	for range n.between(0, 6) {
		row := []int{n.either(3), n.either(3), n.either(3), n.either(3)}
		l.Rows = append(l.Rows, row)
	}
	if len(l.Rows) > 0 && n.between(0, 9) == 0 {
		l.Rows[0] = append(l.Rows[0], 1)
	}
	return l
}

// strangeArguments are arguments, many of them right ones.
func (n *numbers) strangeArguments(t *testing.T) arguments {
	x := arguments{a: n.definite(), q: n.quat(9, 2), n: n.either(50), t: api.Type{Trace: n.either(4), Norm: n.either(50)}}
	if n.between(0, 2) == 0 {
		x.a = n.algebra()
	}
	x.l = n.order(t, x.a)
	for range n.between(0, 4) {
		x.s = append(x.s, n.combination(t, x.a, x.l, 1))
	}
	switch n.between(0, 9) {
	case 0:
		x.l = n.strangeLattice()
	case 1:
		x.l.Rows[n.between(0, len(x.l.Rows)-1)][n.between(0, 3)] = n.strange()
	case 2:
		x.a.A = n.strange()
	case 3:
		x.q = api.Quat{W: n.strange(), X: n.strange(), Y: n.either(9), Z: n.either(9), Den: n.either(9)}
		x.s = append(x.s, x.q)
	case 4:
		x.q = n.quat(coord, coord)
		x.s = append(x.s, x.q, n.quat(coord, coord))
	case 5:
		x.s = append(x.s, make([]api.Quat, n.between(0, 9))...)
	}
	return x
}

// stretch is the memory of a slice, up to its capacity.
type stretch struct{ from, to uintptr }

// stretches are those of all slices in v.
func stretches(v reflect.Value) []stretch {
	var list []stretch
	switch v.Kind() {
	case reflect.Interface:
		return stretches(v.Elem())
	case reflect.Struct:
		for i := range v.NumField() {
			list = append(list, stretches(v.Field(i))...)
		}
	case reflect.Slice:
		if v.Cap() > 0 {
			list = append(list, stretch{v.Pointer(), v.Pointer() + uintptr(v.Cap())*v.Type().Elem().Size()})
		}
		for i := range v.Len() {
			list = append(list, stretches(v.Index(i))...)
		}
	}
	return list
}

// wantApart checks that no two slices share memory.
func wantApart(t *testing.T, what string, results []any, x arguments) {
	t.Helper()
	var list []stretch
	for _, r := range results {
		list = append(list, stretches(reflect.ValueOf(r))...)
	}
	own := len(list)
	list = append(list, stretches(reflect.ValueOf(x))...)
	for i, a := range list[:own] {
		for _, b := range list[i+1:] {
			if a.from < b.to && b.from < a.to {
				t.Fatalf("%s: shared memory", what)
			}
		}
	}
}

func TestStrangeArguments(t *testing.T) {
	n := numbers(23)
	right := map[string]int{}
	for range 500 {
		seed := n
		x := n.strangeArguments(t)
		for name, f := range functions {
			results := f.call(x)
			e := results[len(results)-1].(api.Errno)
			if first := f.firstError(x); first != api.OK {
				want(t, fmt.Sprint(name, " ", x), e, first)
			}
			if e != api.OK {
				wantError(t, fmt.Sprint(name, " ", x), e, results...)
			} else {
				right[name]++
			}
			wantApart(t, name, results, x)
			if again := f.call(x); !reflect.DeepEqual(results, again) {
				t.Fatalf("%s: %v, and then %v", name, results, again)
			}
		}
		if fresh := seed; !reflect.DeepEqual(x, fresh.strangeArguments(t)) {
			t.Fatalf("an argument has been changed: %v", x)
		}
	}
	for name := range functions {
		if right[name] < 20 {
			t.Errorf("%s has had only %d results", name, right[name])
		}
	}
}

func TestLatticesAreReadByValue(t *testing.T) {
	n := numbers(24)
	for range 60 {
		x := n.strangeArguments(t)
		y := x
		if len(x.l.Rows) == 0 || len(x.l.Rows) > 20 || x.l.Den > 1000 || functions["Check"].firstError(x) != api.OK {
			continue
		}
		y.l = n.rewritten(x.l)
		for name, f := range functions {
			if a, b := fmt.Sprint(f.call(x)...), fmt.Sprint(f.call(y)...); a != b {
				t.Errorf("%s %v: %s, but %s with the rows %v", name, x, a, b, y.l)
			}
		}
	}
}

func TestNilAndEmpty(t *testing.T) {
	for name, f := range functions {
		none := arguments{a: hamilton, l: api.Lattice{Dim: 4, Den: 1}}
		empty := arguments{a: hamilton, l: api.Lattice{Dim: 4, Rows: [][]int{}, Den: 1}, s: []api.Quat{}}
		if a, b := fmt.Sprint(f.call(none)...), fmt.Sprint(f.call(empty)...); a != b {
			t.Errorf("%s: %s, but %s for nil", name, b, a)
		}
	}
}
