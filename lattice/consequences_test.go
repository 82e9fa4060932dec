package lattice_test

import (
	"fmt"
	"math/big"
	"testing"

	"fourfold/api"
	"fourfold/lattice"
)

// The tests of this file are those of P2.12, P2.13 and P2.14.

// det is the determinant.
func det(t *testing.T, m matrix) *big.Int {
	t.Helper()
	d, e := lattice.Determinant(m)
	want(t, "Determinant", e, api.OK)
	return toBig(d)
}

func TestDeterminantsOfProducts(t *testing.T) {
	n := numbers(27)
	for k := range 200 {
		size := n.between(1, 6)
		a, b := n.matrix(size, size, 9), n.matrix(size, size, []int{1, 9, 100000}[k%3])
		want(t, "the determinant of a product", new(big.Int).Mul(det(t, a), det(t, b)).Cmp(det(t, times(a, b))), 0)
		product := big.NewInt(1)
		for _, x := range wantSmith(t, b) { // each one divides the next one: see there
			product.Mul(product, x)
		}
		want(t, "the product of the invariant factors", product.CmpAbs(det(t, b)), 0)
	}
}

func TestHermiteFormsOfTheSameRows(t *testing.T) {
	n := numbers(28)
	for range 200 {
		rows := n.between(1, 7)
		m := n.matrix(rows, n.between(1, 7), 5)
		h, _, e := lattice.Hermite(m)
		other, _, f := lattice.Hermite(times(n.unimodular(rows, 12), m))
		wantResult(t, fmt.Sprint("Hermite of a multiple of ", m), other, f, h, e)
	}
}

// sum and meet are the sum and the intersection.
func sum(t *testing.T, a, b api.Lattice) api.Lattice {
	t.Helper()
	l, e := lattice.Sum(a, b)
	want(t, "Sum", e, api.OK)
	return l
}

func meet(t *testing.T, a, b api.Lattice) api.Lattice {
	t.Helper()
	l, e := lattice.Meet(a, b)
	want(t, "Meet", e, api.OK)
	return l
}

// index is the index as a fraction.
func index(t *testing.T, a, b api.Lattice) *big.Rat {
	t.Helper()
	i, e := lattice.Index(a, b)
	want(t, "Index", e, api.OK)
	return big.NewRat(int64(i.Num), int64(i.Den))
}

// wantPart checks that a is a part of b.
func wantPart(t *testing.T, a, b api.Lattice) {
	t.Helper()
	for _, row := range a.Rows {
		want(t, fmt.Sprint(a, " is a part of ", b), has(t, b, row, a.Den), true)
	}
}

func TestSumsAndIntersections(t *testing.T) {
	n := numbers(29)
	for range 200 {
		dim := n.between(1, 5)
		a, b := n.lattice(dim, n.between(0, 5), 4, 6), n.lattice(dim, n.between(0, 5), 4, 6)
		wantResult(t, "the sum the other way", sum(t, a, b), api.OK, sum(t, b, a), api.OK)
		wantResult(t, "the intersection the other way", meet(t, a, b), api.OK, meet(t, b, a), api.OK)
		for _, l := range []api.Lattice{a, b} {
			wantPart(t, l, sum(t, a, b))
			wantPart(t, meet(t, a, b), l)
		}
	}
	for range 200 {
		dim := n.between(1, 4)
		a, b, c := n.full(dim, 4, 4), n.full(dim, 4, 4), n.full(dim, 4, 4)
		want(t, "the index of the intersection and that in the sum", index(t, a, meet(t, a, b)).Cmp(index(t, sum(t, a, b), b)), 0)
		want(t, "the product of indices", new(big.Rat).Mul(index(t, a, b), index(t, b, c)).Cmp(index(t, a, c)), 0)
		if i := index(t, a, meet(t, a, b)); !i.IsInt() {
			t.Errorf("the index of a part is %v", i)
		}
	}
}

func TestDualsOfDuals(t *testing.T) {
	n := numbers(30)
	for range 200 {
		dim := n.between(1, 4)
		l, form := n.full(dim, 3, 3), n.matrix(dim, dim, 3)
		if det(t, form).Sign() == 0 {
			continue
		}
		dual, e := lattice.Dual(l, form)
		want(t, "Dual", e, api.OK)
		back, e := lattice.Dual(dual, turned(form))
		normal, f := lattice.Normal(l)
		wantResult(t, fmt.Sprint("the dual of the dual of ", l, " by ", form), back, e, normal, f)
		part, e := lattice.Image(l, n.unimodular(dim, 0), 1)
		want(t, "Image", e, api.OK)
		part = meet(t, l, part)
		larger, e := lattice.Dual(part, form)
		want(t, "Dual", e, api.OK)
		wantPart(t, dual, larger)
		want(t, "the index of the duals", index(t, l, part).Cmp(index(t, larger, dual)), 0)
	}
}

func TestPartsOfAnIndex(t *testing.T) {
	n := numbers(31)
	for range 40 {
		dim, p := n.between(1, 4), []int{2, 3, 5, 7}[n.between(0, 3)]
		l := n.full(dim, 5, 5)
		list, e := lattice.Sublattices(l, p)
		want(t, "Sublattices", e, api.OK)
		count, power := 0, 1
		for range dim {
			count, power = count+power, power*p
		}
		want(t, "the number of parts", len(list), count)
		different := map[string]bool{}
		for _, part := range list {
			wantPart(t, part, l)
			want(t, "the index of a part", index(t, l, part).Cmp(big.NewRat(int64(p), 1)), 0)
			different[fmt.Sprint(part)] = true
		}
		want(t, "the number of different parts", len(different), count)
	}
}

func TestWhatReductionsKeep(t *testing.T) {
	n := numbers(32)
	for range 300 {
		g := hard(&n)
		r, e := lattice.Reduce(g)
		want(t, "Reduce", e, api.OK)
		want(t, "the determinant of a reduction", det(t, g).Cmp(det(t, r.Gram)), 0)
		minimum, _, e := lattice.Minimum(g)
		wantResult(t, "the first element of a reduction", r.Gram[0][0], api.OK, minimum, e)
		bound := minimum + n.between(0, 5)
		before, e := lattice.Counts(g, bound)
		after, f := lattice.Counts(r.Gram, bound)
		wantResult(t, "the numbers of vectors", before, e, after, f)
		diagonal := big.NewInt(3)
		for i := range r.Gram {
			diagonal.Mul(diagonal, big.NewInt(int64(r.Gram[i][i])))
		}
		most := []int64{3, 4, 6, 12}[len(g)-1] // three times 1, 4/3, 2 and 4
		if low := new(big.Int).Mul(big.NewInt(3), det(t, g)); diagonal.Cmp(low) < 0 || diagonal.Cmp(new(big.Int).Mul(big.NewInt(most), det(t, g))) > 0 {
			t.Errorf("the diagonal of %v does not fit its determinant", r.Gram)
		}
	}
}

func TestValuesOfMultiples(t *testing.T) {
	n := numbers(33)
	for range 200 {
		g, k := n.gram(n.between(1, 4), 9), n.between(-100, 100)
		v := n.matrix(1, len(g), 900)[0]
		value, e := lattice.Value(g, v)
		want(t, "Value", e, api.OK)
		for i := range v {
			v[i] *= k
		}
		multiple, e := lattice.Value(g, v)
		wantResult(t, "the value of a multiple", multiple, e, k*k*value, api.OK)
	}
}
