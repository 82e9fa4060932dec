package quadratic_test

import (
	"fmt"
	"slices"
	"testing"

	"fourfold/api"
	"fourfold/quadratic"
)

// The tests of this file are those of P6.4.

// images are all unimodular matrices that take f to g, of the same determinant, lexicographically, from all vectors of f with values up to those of the diagonal of g.
func images(f, g api.Form, all [][]int) []matrix {
	var list []matrix
	var choose func(rows matrix)
	choose = func(rows matrix) {
		k := len(rows)
		if k == f.N {
			list = append(list, rows)
			return
		}
		for _, x := range all {
			fits := 2*value(f, x) == g.Gram[k][k]
			for i := 0; fits && i < k; i++ {
				fits = between(f, x, rows[i]) == g.Gram[k][i]
			}
			if fits {
				choose(append(slices.Clone(rows), x))
			}
		}
	}
	choose(nil)
	return list
}

// isTaken reports whether t is unimodular and takes f to g.
func isTaken(f, g api.Form, t matrix) bool {
	d := det(t)
	return d.IsInt64() && (d.Int64() == 1 || d.Int64() == -1) && same(taken(f, t), g)
}

func TestEquivalence(t *testing.T) {
	n := numbers(30)
	sizes, more := map[int]int{}, 0
	for range 300 {
		f := n.any()
		g, m := n.hidden(f, one(&n, 0, 2, 8))
		if n.between(0, 1) == 0 {
			f, g, m = g, f, back(m)
		}
		list := vectors(f, longest(g))
		if list == nil {
			continue
		}
		wanted := images(f, g, list)
		sizes[f.N]++
		if len(wanted) > 2 {
			more++
		}
		got, e := quadratic.Equivalence(f, g)
		wantResult(t, fmt.Sprint("Equivalence ", f, g), got, e, wanted[0], api.OK)
		want(t, "CheckEquivalence", quadratic.CheckEquivalence(f, g, got), api.OK)
		want(t, fmt.Sprint("CheckEquivalence ", f, g, m), quadratic.CheckEquivalence(f, g, m), api.OK)
	}
	if sizes[2] < 40 || sizes[3] < 40 || sizes[4] < 40 || more < 40 {
		t.Error("forms:", sizes, "with more than two matrices:", more)
	}
}

// Forms in a basis with great numbers: the first matrix is the least of the products of the automorphisms with any one.
func TestEquivalenceOfHiddenForms(t *testing.T) {
	n := numbers(31)
	for _, k := range known() {
		for range 4 {
			f, _ := n.hiddenWithin(k.form, n.between(0, 12), 238)
			g, m := n.hiddenWithin(f, n.between(10, 40), 238) // greater values may have too many vectors
			automorphisms, e := quadratic.Automorphisms(f)
			want(t, "Automorphisms", e, api.OK)
			want(t, fmt.Sprint("automorphisms of ", f), len(automorphisms), k.count)
			var all []matrix
			for _, a := range automorphisms {
				if !isTaken(f, f, a) {
					t.Errorf("%v is no automorphism of %v", a, f)
				}
				all = append(all, times(m, a))
			}
			compare := func(a, b matrix) int { return slices.CompareFunc(a, b, slices.Compare) }
			slices.SortFunc(all, compare)
			got, e := quadratic.Equivalence(f, g)
			wantResult(t, fmt.Sprint("Equivalence ", f, g), got, e, all[0], api.OK)
			for i, a := range automorphisms[1:] {
				if compare(automorphisms[i], a) >= 0 {
					t.Errorf("Automorphisms %v: %v stands before %v", f, automorphisms[i], a)
				}
			}
		}
	}
}

func TestAutomorphisms(t *testing.T) {
	n := numbers(32)
	seen := map[int]int{}
	for range 300 {
		f := n.any()
		list := vectors(f, longest(f))
		if list == nil {
			continue
		}
		wanted := images(f, f, list)
		got, e := quadratic.Automorphisms(f)
		wantResult(t, fmt.Sprint("Automorphisms ", f), got, e, wanted, api.OK)
		seen[len(wanted)]++
	}
	if len(seen) < 8 {
		t.Error("numbers of automorphisms:", seen)
	}
}

// tetralattice is one of Conway's and Sloane's pairs of forms with the same theta series: with signs 1 and -1.
func tetralattice(sign int) api.Form {
	rows := matrix{{3 * sign, -1, -1, -1}, {1, 3 * sign, -1, 1}, {1, 1, 3 * sign, -1}, {1, -1, 1, 3 * sign}}
	weights := matrix{{1, 0, 0, 0}, {0, 7, 0, 0}, {0, 0, 13, 0}, {0, 0, 0, 19}}
	g := times(times(rows, weights), turned(rows))
	for _, row := range g {
		for j := range row {
			row[j] /= 12
		}
	}
	return of(g...)
}

func TestFormsThatAreNotEquivalent(t *testing.T) {
	f, g := tetralattice(1), tetralattice(-1)
	want(t, "the determinant", determinant(t, f), 1729)
	want(t, "the other determinant", determinant(t, g), 1729)
	theta, e := quadratic.Theta(g, api.MaxValue)
	wantResult(t, "the series", made[[]int](t)(quadratic.Theta(f, api.MaxValue)), api.OK, theta, e)
	pairs := [][2]api.Form{{f, g}, {fourSquares(), beside(rootsA3(), diagonal(2))}, {of([]int{2, 1}, []int{1, 12}), of([]int{4, 1}, []int{1, 6})}, {diagonal(1, 6), diagonal(2, 3)}, {diagonal(1, 1, 4), diagonal(1, 2, 2)}, {diagonal(1, 2, 3, 4), diagonal(1, 1, 4, 6)}}
	n := numbers(33)
	for _, p := range pairs {
		for range 5 {
			f, _ := n.hidden(p[0], n.between(0, 6))
			g, _ := n.hidden(p[1], n.between(0, 6))
			wantError(t, fmt.Sprint("Equivalence ", f, g), api.ErrNone, all(quadratic.Equivalence(f, g))...)
			wantError(t, fmt.Sprint("Equivalence ", g, f), api.ErrNone, all(quadratic.Equivalence(g, f))...)
			if same(quadraticLabel(t, f), quadraticLabel(t, g)) {
				t.Error("the same label of", f, "and", g)
			}
		}
	}
}

// quadraticLabel is the label.
func quadraticLabel(t *testing.T, f api.Form) api.Form {
	t.Helper()
	return made[api.Form](t)(quadratic.Label(f))
}

// Small forms of the same determinant: whether they are equivalent is looked up among all vectors.
func TestEquivalenceOfFormsOfADeterminant(t *testing.T) {
	n := numbers(34)
	seen := map[api.Errno]int{}
	forms := map[string][]api.Form{}
	for range 600 {
		f := n.form(n.between(2, 4), 3, 2)
		key := fmt.Sprint(f.N, determinant(t, f))
		for _, g := range forms[key] {
			var wanted matrix
			e := api.ErrNone
			if list := images(f, g, vectors(f, longest(g))); len(list) > 0 {
				wanted, e = list[0], api.OK
			}
			got, result := quadratic.Equivalence(f, g)
			wantResult(t, fmt.Sprint("Equivalence ", f, g), got, result, wanted, e)
			want(t, fmt.Sprint("the same label of ", f, g), same(quadraticLabel(t, f), quadraticLabel(t, g)), e == api.OK)
			seen[e]++
		}
		if len(forms[key]) < 3 {
			forms[key] = append(forms[key], f)
		}
	}
	if seen[api.OK] < 150 || seen[api.ErrNone] < 150 {
		t.Error("equivalent forms and others:", seen)
	}
}

// withVector is an equivalent form with a primitive vector of a value as its first one.
func withVector(t *testing.T, f api.Form, v int) (api.Form, matrix) {
	t.Helper()
	for _, x := range cubeOf(f.N, 12) {
		place := slices.IndexFunc(x, func(n int) bool { return n == 1 })
		if place < 0 || value(f, x) != v {
			continue
		}
		rows := matrix{x}
		for i, row := range unit(f.N) {
			if i != place {
				rows = append(rows, row)
			}
		}
		return taken(f, rows), rows
	}
	t.Fatalf("no vector of %v with the value %d", f, v)
	return api.Form{}, nil
}

// cubeOf are the vectors with numbers from 0 to long.
func cubeOf(size, long int) [][]int {
	list := [][]int{nil}
	for range size {
		var longer [][]int
		for _, x := range list {
			for n := range long + 1 {
				longer = append(longer, append(slices.Clone(x), n))
			}
		}
		list = longer
	}
	return list
}

func TestEndsOfTheLimitOfEquivalence(t *testing.T) {
	just := of([]int{2, -1, -1, -1}, []int{-1, 2, 0, 0}, []int{-1, 0, 2, 0}, []int{-1, 0, 0, 4}) // with 5000 vectors of the value 303, and 5040 of 247
	f, m := withVector(t, just, 303)
	got, e := quadratic.Equivalence(just, f)
	want(t, "Equivalence with 5000 vectors", e, api.OK)
	want(t, "Equivalence with 5000 vectors", isTaken(just, f, got), true)
	want(t, "CheckEquivalence with 5000 vectors", quadratic.CheckEquivalence(just, f, m), api.OK)
	list, e := quadratic.Automorphisms(f)
	want(t, "Automorphisms with 5000 vectors", e, api.OK)
	want(t, "Automorphisms with 5000 vectors", len(list), len(made[[][][]int](t)(quadratic.Automorphisms(just))))
	g, m := withVector(t, just, 247)
	wantError(t, "Equivalence with 5040 vectors", api.ErrLarge, all(quadratic.Equivalence(just, g))...)
	wantError(t, "Equivalence with 5040 vectors", api.ErrLarge, all(quadratic.Equivalence(f, g))...)
	wantError(t, "Automorphisms with 5040 vectors", api.ErrLarge, all(quadratic.Automorphisms(g))...)
	want(t, "CheckEquivalence with 5040 vectors", quadratic.CheckEquivalence(just, g, m), api.OK)
	// The great value may stand anywhere, and it is the second form's.
	last := matrix{{0, 1, 0, 0}, {0, 0, 1, 0}, {0, 0, 0, 1}, {1, 0, 0, 0}}
	wantError(t, "Equivalence with a vector at the end", api.ErrLarge, all(quadratic.Equivalence(just, taken(g, last)))...)
	back, e := quadratic.Equivalence(g, just)
	want(t, "Equivalence the other way", e, api.OK)
	want(t, "Equivalence the other way", isTaken(g, just, back), true)
	// Other forms of the same determinant: the vectors are counted first.
	other, _ := withVector(t, beside(rootsA3(), diagonal(2)), 330)
	wantError(t, "Equivalence of others with many vectors", api.ErrLarge, all(quadratic.Equivalence(fourSquares(), other))...)
	wantError(t, "Equivalence of others with few vectors", api.ErrNone, all(quadratic.Equivalence(other, fourSquares()))...)
	wantError(t, "Equivalence of forms of different determinants", api.ErrNone, all(quadratic.Equivalence(rootsD4(), other))...)
}

func TestErrorsOfEquivalence(t *testing.T) {
	for _, x := range []struct {
		f, g api.Form
		e    api.Errno
	}{
		{api.Form{}, diagonal(501, 1), api.ErrShape}, {diagonal(501, 1), api.Form{}, api.ErrLarge}, {diagonal(1, 1), diagonal(0, 1), api.ErrForm}, {diagonal(0, 1), diagonal(501, 1), api.ErrForm}, {fourSquares(), api.Form{}, api.ErrShape}, {hexagonal(), diagonal(1, 1, 501), api.ErrLarge},
		{hexagonal(), rootsA3(), api.ErrNone}, {hexagonal(), diagonal(1, 1), api.ErrNone}, {diagonal(1, 1), rootsD4(), api.ErrNone}, {diagonal(2, 2), diagonal(1, 1, 2), api.ErrNone}, {diagonal(2, 1, 1), diagonal(2, 2), api.ErrNone},
	} {
		wantError(t, fmt.Sprint("Equivalence ", x.f, x.g), x.e, all(quadratic.Equivalence(x.f, x.g))...)
		e := x.e
		if e == api.ErrNone {
			e = api.ErrShape
			if x.f.N == x.g.N {
				e = api.ErrProof
			}
		}
		want(t, fmt.Sprint("CheckEquivalence ", x.f, x.g), quadratic.CheckEquivalence(x.f, x.g, unit(2)), e)
	}
	for _, f := range []api.Form{{}, diagonal(501, 1), diagonal(0, 1)} {
		wantError(t, "Automorphisms", quadratic.Check(f), all(quadratic.Automorphisms(f))...)
	}
}

func TestCheckEquivalence(t *testing.T) {
	double := diagonal(1, 4)
	for _, x := range []struct {
		f, g api.Form
		t    matrix
		e    api.Errno
	}{
		{hexagonal(), hexagonal(), unit(2), api.OK}, {hexagonal(), hexagonal(), matrix{{0, 1}, {1, 0}}, api.OK}, {hexagonal(), hexagonal(), matrix{{-1, 0}, {0, -1}}, api.OK}, {hexagonal(), of([]int{6, 3}, []int{3, 2}), matrix{{1, 1}, {0, 1}}, api.OK},
		{hexagonal(), hexagonal(), nil, api.ErrShape}, {hexagonal(), hexagonal(), matrix{}, api.ErrShape}, {hexagonal(), hexagonal(), matrix{{}, {}}, api.ErrShape}, {hexagonal(), hexagonal(), unit(3), api.ErrShape}, {hexagonal(), hexagonal(), matrix{{1, 0}}, api.ErrShape}, {hexagonal(), hexagonal(), matrix{{1, 0}, {0}}, api.ErrShape}, {hexagonal(), hexagonal(), matrix{{1, 0, 0}, {0, 1, 0}}, api.ErrShape},
		{hexagonal(), rootsA3(), unit(2), api.ErrShape}, {hexagonal(), rootsA3(), unit(3), api.ErrShape}, {rootsA3(), hexagonal(), unit(3), api.ErrShape}, {rootsA3(), hexagonal(), matrix{{coord + 1}}, api.ErrShape},
		{hexagonal(), hexagonal(), matrix{{coord + 1, 0}, {0, 1}}, api.ErrRange}, {hexagonal(), hexagonal(), matrix{{1, 0}, {0, -coord - 1}}, api.ErrRange}, {hexagonal(), hexagonal(), matrix{{least, 0}, {0, greatest}}, api.ErrRange},
		{hexagonal(), hexagonal(), matrix{{1, coord}, {0, 1}}, api.ErrProof}, {hexagonal(), hexagonal(), matrix{{coord, coord}, {-coord, coord}}, api.ErrProof}, {hexagonal(), hexagonal(), matrix{{1, 1}, {0, 1}}, api.ErrProof}, {hexagonal(), hexagonal(), matrix{{0, 0}, {0, 0}}, api.ErrProof}, {hexagonal(), of([]int{6, 3}, []int{3, 2}), unit(2), api.ErrProof},
		{of([]int{6, 3}, []int{3, 2}), hexagonal(), matrix{{1, 1}, {0, 1}}, api.ErrProof}, {hexagonal(), of([]int{2, 1}, []int{1, 4}), unit(2), api.ErrProof}, {fourSquares(), fourSquares(), wrapped(), api.ErrProof},
		// it takes one form to the other one, but is not unimodular
		{diagonal(1, 1), double, matrix{{1, 0}, {0, 2}}, api.ErrProof},
	} {
		want(t, fmt.Sprint("CheckEquivalence ", x.f, x.g, x.t), quadratic.CheckEquivalence(x.f, x.g, x.t), x.e)
	}
	n := numbers(35)
	for range 300 {
		f := n.any()
		g, m := n.hidden(f, 6)
		if n.between(0, 1) == 0 {
			m = times(n.step(f.N), m)
		}
		wanted := api.ErrProof
		if isTaken(f, g, m) {
			wanted = api.OK
		}
		want(t, fmt.Sprint("CheckEquivalence ", f, g, m), quadratic.CheckEquivalence(f, g, m), wanted)
	}
}
