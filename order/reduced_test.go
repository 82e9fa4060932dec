package order

import (
	"fmt"
	"math/big"
	"testing"

	"fourfold/api"
	"fourfold/exact"
)

// The test of this file looks at the bases from which the elements of P4.7 are found: with a worse basis some would be missed.

// wantReduced checks a reduced basis: it spans the order, and has the norms that are promised.
func wantReduced(t *testing.T, r ring) {
	t.Helper()
	what := fmt.Sprint("the reduced basis of ", r.algebra, r.lattice)
	basis := r.reduced()
	var rows []exact.Row
	square := r.lattice.Den * r.lattice.Den
	norms := big.NewInt(16)
	last := 0
	for c := range basis {
		rows = append(rows, exact.RowOf(basis[c]))
		last = product(r.algebra, basis[c], basis[c]) / square
		norms.Mul(norms, big.NewInt(int64(last)))
	}
	if spanned, _ := latticeOf(r.algebra, exact.Span(r.exact.Den, rows...)); fmt.Sprint(spanned) != fmt.Sprint(r.lattice) {
		t.Errorf("%s spans %v", what, spanned)
	}
	if last != 1 {
		t.Errorf("%s has the last norm %d", what, last)
	}
	// The determinant of the norm form is the square of the discriminant, divided by 16.
	if most := big.NewInt(int64(2 * r.disc)); norms.Cmp(most.Mul(most, most)) > 0 {
		t.Errorf("%s has great norms: %v", what, basis)
	}
	for c := range combinations(each(-1), each(1)) {
		sum := c.of(basis)
		for place, b := range basis {
			if c[place] != 0 && product(r.algebra, sum, sum) < product(r.algebra, b, b) {
				t.Errorf("%s: the vector %d may be shorter", what, place)
			}
		}
	}
}

func TestReducedBases(t *testing.T) {
	great := 0
	for _, a := range []api.Algebra{{A: -1, B: -1}, {A: -1, B: -3}, {A: -2, B: -5}, {A: -3, B: -10}, {A: -19, B: -7}, {A: -701, B: -601}, {A: -1000, B: -999}, {A: -997, B: -1}, {A: -1, B: -1000}} {
		standard, _ := Standard(a)
		maximal, _ := Maximal(a, standard)
		for _, l := range []api.Lattice{standard, maximal} {
			for w := -3; w < 30; w++ {
				q := api.Quat{W: w, X: w*w%11 - 4, Y: w % 5, Z: 2 - w%3, Den: 1}
				turned, e := Conjugate(a, l, q)
				if e != api.OK {
					continue
				}
				r, _ := accept(a, turned)
				wantReduced(t, r)
				if turned.Den > 200 {
					great++
				}
			}
			r, _ := accept(a, l)
			wantReduced(t, r)
		}
	}
	if great < 50 {
		t.Errorf("only %d orders with great numbers", great)
	}
}
