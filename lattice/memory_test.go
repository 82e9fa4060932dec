package lattice_test

import (
	"fmt"
	"math"
	"reflect"
	"testing"

	"fourfold/api"
	"fourfold/lattice"
)

// The tests of this file are those of R2 to R4 and R8: no panics, no shared memory, the same results again, nil as good as empty.

// arguments are what a function of the package is called with.
type arguments struct {
	m, form matrix
	a, b    api.Lattice
	v       api.Vector
	g       matrix
	r       api.Reduced
	n       int
	x       []int
	by      api.Frac
}

// functions are all functions of the package.
var functions = map[string]func(x arguments) []any{
	"CheckMatrix":  func(x arguments) []any { return all(lattice.CheckMatrix(x.m)) },
	"Determinant":  func(x arguments) []any { return all(lattice.Determinant(x.m)) },
	"Rank":         func(x arguments) []any { return all(lattice.Rank(x.m)) },
	"Hermite":      func(x arguments) []any { return all(lattice.Hermite(x.m)) },
	"Smith":        func(x arguments) []any { return all(lattice.Smith(x.m)) },
	"Kernel":       func(x arguments) []any { return all(lattice.Kernel(x.m)) },
	"Check":        func(x arguments) []any { return all(lattice.Check(x.a)) },
	"Normal":       func(x arguments) []any { return all(lattice.Normal(x.a)) },
	"Contains":     func(x arguments) []any { return all(lattice.Contains(x.a, x.v)) },
	"Coordinates":  func(x arguments) []any { return all(lattice.Coordinates(x.a, x.v)) },
	"Sum":          func(x arguments) []any { return all(lattice.Sum(x.a, x.b)) },
	"Meet":         func(x arguments) []any { return all(lattice.Meet(x.a, x.b)) },
	"Index":        func(x arguments) []any { return all(lattice.Index(x.a, x.b)) },
	"Dual":         func(x arguments) []any { return all(lattice.Dual(x.a, x.form)) },
	"Scale":        func(x arguments) []any { return all(lattice.Scale(x.a, x.by)) },
	"Image":        func(x arguments) []any { return all(lattice.Image(x.a, x.m, x.n)) },
	"Sublattices":  func(x arguments) []any { return all(lattice.Sublattices(x.a, x.n)) },
	"GramOf":       func(x arguments) []any { return all(lattice.GramOf(x.a, x.form)) },
	"CheckGram":    func(x arguments) []any { return all(lattice.CheckGram(x.g)) },
	"Value":        func(x arguments) []any { return all(lattice.Value(x.g, x.x)) },
	"IsReduced":    func(x arguments) []any { return all(lattice.IsReduced(x.g)) },
	"Reduce":       func(x arguments) []any { return all(lattice.Reduce(x.g)) },
	"CheckReduced": func(x arguments) []any { return all(lattice.CheckReduced(x.g, x.r)) },
	"Vectors":      func(x arguments) []any { return all(lattice.Vectors(x.g, x.n)) },
	"Minimum":      func(x arguments) []any { return all(lattice.Minimum(x.g)) },
	"Counts":       func(x arguments) []any { return all(lattice.Counts(x.g, x.n)) },
}

// stretch is the memory of a slice, up to its capacity.
type stretch struct{ from, to uintptr }

// stretches are those of all slices in v.
func stretches(v reflect.Value) []stretch {
	var list []stretch
	switch v.Kind() {
	case reflect.Interface:
		return stretches(v.Elem())
	case reflect.Struct:
		for i := range v.NumField() {
			list = append(list, stretches(v.Field(i))...)
		}
	case reflect.Slice:
		if v.Cap() > 0 {
			list = append(list, stretch{v.Pointer(), v.Pointer() + uintptr(v.Cap())*v.Type().Elem().Size()})
		}
		for i := range v.Len() {
			list = append(list, stretches(v.Index(i))...)
		}
	}
	return list
}

// wantApart checks that no two slices share memory.
func wantApart(t *testing.T, what string, results []any, x arguments) {
	t.Helper()
	var list []stretch
	for _, r := range results {
		list = append(list, stretches(reflect.ValueOf(r))...)
	}
	own := len(list)
	list = append(list, stretches(reflect.ValueOf(x))...)
	for i, a := range list[:own] {
		for _, b := range list[i+1:] {
			if a.from < b.to && b.from < a.to {
				t.Fatalf("%s: shared memory", what)
			}
		}
	}
}

func TestMemory(t *testing.T) {
	n := numbers(34)
	large := n.matrix(4, 4, limit)
	made := 0
	for k := range 400 {
		dim := n.between(1, 4)
		list := func(seed numbers) arguments {
			n := numbers(seed)
			x := arguments{m: n.matrix(dim, n.between(0, 4), 9), form: n.matrix(dim, dim, 5), a: n.full(dim, 5, 4), b: n.full(dim, 5, 4), g: n.gram(n.between(1, 4), 3), n: []int{2, 3, 5}[n.between(0, 2)], by: api.Frac{Num: 4, Den: 6}}
			x.v = api.Vector{Coords: make([]int, dim), Den: 1}
			x.x = make([]int, len(x.g))
			x.r, _ = lattice.Reduce(x.g)
			switch k % 4 {
			case 1:
				x.m = large
			case 2: // in normal form: then little is left to do
				x.a, _ = lattice.Normal(x.a)
				x.b, x.m, x.g = x.a, unit(dim), unit(dim)
				x.x = make([]int, dim)
			}
			return x
		}
		for name, f := range functions {
			seed := n + numbers(k)
			x := list(seed)
			results := f(x)
			if e := results[len(results)-1]; e == api.OK {
				made++
			}
			if !reflect.DeepEqual(x, list(seed)) {
				t.Fatalf("%s has changed an argument", name)
			}
			wantApart(t, name, results, x)
			if again := f(x); !reflect.DeepEqual(results, again) {
				t.Fatalf("%s: %v, and then %v", name, results, again)
			}
		}
	}
	if made < 5000 {
		t.Errorf("only %d results have been looked at", made)
	}
}

// strange is a number that is often at the end of some range.
func (n *numbers) strange() int {
	list := []int{0, 1, -1, 2, 3, -7, 64, 5000, 1000, 1001, 100000, 1000000, 1000001, 1000000000, 1000000001, limit, -limit, limit + 1, math.MaxInt, math.MinInt, math.MinInt + 1, math.MaxInt32, 1 << 62}
	return list[n.between(0, len(list)-1)]
}

// strangeMatrix is a matrix with strange numbers, often one without a shape.
func (n *numbers) strangeMatrix() matrix {
	sizes := []int{0, 1, 2, 2, 3, 4, 5, 7}
	m := make(matrix, sizes[n.between(0, 7)])
	columns, mild := sizes[n.between(0, 7)], n.between(0, 2)
	if n.between(0, 1) == 0 {
		columns = len(m)
	}
	for i := range m {
		for range columns {
			m[i] = append(m[i], []int{n.strange(), n.between(-2, 2), n.between(-limit, limit)}[mild])
		}
		if n.between(0, 20) == 0 {
			m[i] = append(m[i], 1)
		}
	}
	if n.between(0, 1) == 0 && mild == 1 { // symmetric and often positive
		for i := range min(len(m), columns) {
			for j := range min(i, len(m[i])) {
				m[i][j] = m[j][i]
			}
			m[i][i] += 4
		}
	}
	return m
}

func TestStrangeArguments(t *testing.T) {
	n := numbers(35)
	lattices := func() api.Lattice {
		l := api.Lattice{Dim: n.between(-1, 7), Rows: n.strangeMatrix(), Den: n.strange()}
		if len(l.Rows) > 0 && n.between(0, 3) > 0 {
			l.Dim, l.Den = len(l.Rows[0]), max(l.Den, 1)
		}
		return l
	}
	for range 3000 {
		x := arguments{m: n.strangeMatrix(), form: n.strangeMatrix(), a: lattices(), b: lattices(), g: n.strangeMatrix(), n: n.strange(), by: api.Frac{Num: n.strange(), Den: n.strange()}}
		x.v = api.Vector{Coords: append(n.strangeMatrix(), nil)[0], Den: n.strange()}
		x.x = append(n.strangeMatrix(), nil)[0]
		x.r = api.Reduced{Gram: n.strangeMatrix(), Rows: n.strangeMatrix()}
		for name, f := range functions {
			results := f(x)
			if e := results[len(results)-1].(api.Errno); e != api.OK {
				wantError(t, name, e, results...)
			}
		}
	}
}

func TestNilAndEmpty(t *testing.T) {
	empty := arguments{m: matrix{}, form: matrix{}, a: api.Lattice{Dim: 2, Rows: matrix{}, Den: 3}, b: api.Lattice{Dim: 2, Rows: matrix{}, Den: 3}, v: api.Vector{Coords: []int{}}, g: matrix{}, r: api.Reduced{Gram: matrix{}, Rows: matrix{}}, n: 3, x: []int{}, by: api.Frac{Num: 1, Den: 1}}
	none := arguments{a: api.Lattice{Dim: 2, Den: 3}, b: api.Lattice{Dim: 2, Den: 3}, n: 3, by: api.Frac{Num: 1, Den: 1}}
	for name, f := range functions {
		if a, b := fmt.Sprint(f(empty)...), fmt.Sprint(f(none)...); a != b {
			t.Errorf("%s: %s, but %s for nil", name, a, b)
		}
	}
}
