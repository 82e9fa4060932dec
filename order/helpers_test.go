package order_test

import (
	"fmt"
	"math"
	"math/big"
	"reflect"
	"testing"

	"fourfold/algebra"
	"fourfold/api"
	"fourfold/lattice"
	"fourfold/order"
)

const (
	least    = math.MinInt
	greatest = math.MaxInt
	coord    = api.MaxCoord
)

var (
	hamilton = api.Algebra{A: -1, B: -1}
	three    = api.Algebra{A: -1, B: -3} // ramified at 3 and infinity
	six      = api.Algebra{A: -1, B: 3}  // ramified at 2 and 3
	matrices = api.Algebra{A: 1, B: 1}   // splits

	one = api.Quat{W: 1, Den: 1}
	i   = api.Quat{X: 1, Den: 1}
	j   = api.Quat{Y: 1, Den: 1}
	k   = api.Quat{Z: 1, Den: 1}
	u   = api.Quat{W: 1, X: 1, Y: 1, Z: 1, Den: 2}

	lipschitz = of(1, [4]int{1, 0, 0, 0}, [4]int{0, 1, 0, 0}, [4]int{0, 0, 1, 0}, [4]int{0, 0, 0, 1})
	hurwitz   = of(2, [4]int{1, 1, 1, 1}, [4]int{0, 2, 0, 0}, [4]int{0, 0, 2, 0}, [4]int{0, 0, 0, 2})
)

// of is the lattice of the combinations of rows / den.
func of(den int, rows ...[4]int) api.Lattice {
	l := api.Lattice{Dim: 4, Den: den}
	for _, r := range rows {
		l.Rows = append(l.Rows, append([]int{}, r[:]...))
	}
	return l
}

// want compares comparable results.
func want[T comparable](t *testing.T, what string, got, wanted T) {
	t.Helper()
	if got != wanted {
		t.Errorf("%s: %v, want %v", what, got, wanted)
	}
}

// same compares results, where a nil slice and an empty one are the same.
func same(a, b any) bool {
	return fmt.Sprintf("%T %v", a, a) == fmt.Sprintf("%T %v", b, b)
}

// wantResult compares a result and an error.
func wantResult(t *testing.T, what string, got any, e api.Errno, wanted any, f api.Errno) {
	t.Helper()
	if e != f || !same(got, wanted) {
		t.Errorf("%s: %v, error %d, want %v, error %d", what, got, e, wanted, f)
	}
}

// wantError checks that there is this error, and that every other result is its zero value.
func wantError(t *testing.T, what string, f api.Errno, results ...any) {
	t.Helper()
	want(t, what, results[len(results)-1].(api.Errno), f)
	for _, r := range results[:len(results)-1] {
		if v := reflect.ValueOf(r); !v.IsZero() && (v.Kind() != reflect.Slice || v.Len() > 0) {
			t.Errorf("%s: %v beside the error", what, r)
		}
	}
}

// made is the result of a function that has to be OK.
func made[T any](t *testing.T) func(result T, e api.Errno) T {
	return func(result T, e api.Errno) T {
		t.Helper()
		if e != api.OK {
			t.Fatalf("no result, but error %d", e)
		}
		return result
	}
}

// all gives all results of a function as a list.
func all(results ...any) []any { return results }

// numbers yields numbers that follow a rule without a pattern, the same ones each time.
type numbers uint64

func (n *numbers) next() uint64 {
	*n += 0x9e3779b97f4a7c15
	z := uint64(*n)
	z = (z ^ z>>30) * 0xbf58476d1ce4e5b9
	z = (z ^ z>>27) * 0x94d049bb133111eb
	return z ^ z>>31
}

// between is a number from a to b.
func (n *numbers) between(a, b int) int { return a + int(n.next()%uint64(b-a+1)) }

// sign is 1 or -1.
func (n *numbers) sign() int { return 1 - 2*n.between(0, 1) }

// quat is an element with numerators up to most, and a denominator up to den.
func (n *numbers) quat(most, den int) api.Quat {
	c := func() int { return n.between(-most, most) }
	return api.Quat{W: c(), X: c(), Y: c(), Z: c(), Den: n.between(1, den)}
}

// algebra is an algebra, most often one with small numbers.
func (n *numbers) algebra() api.Algebra {
	if n.between(0, 3) > 0 {
		return api.Algebra{A: n.sign() * n.between(1, 6), B: n.sign() * n.between(1, 12)}
	}
	return api.Algebra{A: n.sign() * n.between(1, api.MaxParam), B: n.sign() * n.between(1, 40)}
}

// definite is a definite algebra.
func (n *numbers) definite() api.Algebra {
	a := n.algebra()
	return api.Algebra{A: min(a.A, -a.A), B: min(a.B, -a.B)}
}

// combination is a combination of the basis of an order with multiples up to most, where it fits.
func (n *numbers) combination(t *testing.T, a api.Algebra, l api.Lattice, most int) api.Quat {
	t.Helper()
	sum := api.Quat{Den: 1}
	for _, b := range made[[]api.Quat](t)(order.Basis(a, l)) {
		multiple, _ := algebra.Scale(b, api.Frac{Num: n.between(-most, most), Den: 1})
		if next, e := algebra.Add(sum, multiple); e == api.OK {
			sum = next
		}
	}
	return sum
}

// order is an order of an algebra: often not maximal, and not in normal form.
func (n *numbers) order(t *testing.T, a api.Algebra) api.Lattice {
	t.Helper()
	l := made[api.Lattice](t)(order.Standard(a))
	if larger, e := order.Maximal(a, l); e == api.OK && n.between(0, 3) > 0 {
		l = larger
	}
	for range n.between(0, 2) {
		if next := n.changed(t, a, l); order.Check(a, next) == api.OK {
			l = next
		}
	}
	return n.rewritten(l)
}

// changed is another lattice than the order l: most often an order.
func (n *numbers) changed(t *testing.T, a api.Algebra, l api.Lattice) api.Lattice {
	t.Helper()
	switch n.between(0, 3) {
	case 0: // the integers and multiples of l
		part := made[api.Lattice](t)(lattice.Scale(l, api.Frac{Num: n.between(2, 6), Den: 1}))
		return made[api.Lattice](t)(lattice.Sum(part, of(1, [4]int{1, 0, 0, 0})))
	case 1:
		conjugate, _ := order.Conjugate(a, l, n.quat(4, 2))
		return conjugate
	case 2:
		if conjugate, e := order.Conjugate(a, l, n.quat(3, 1)); e == api.OK {
			part, _ := lattice.Meet(l, conjugate)
			return part
		}
	}
	if l, e := order.Generated(a, []api.Quat{n.combination(t, a, l, 2), n.combination(t, a, l, 2), n.combination(t, a, l, 1)}); e == api.OK {
		return l
	}
	return l
}

// rewritten is the same lattice with other rows and another denominator.
func (n *numbers) rewritten(l api.Lattice) api.Lattice {
	by := n.between(1, 3)
	m := api.Lattice{Dim: l.Dim, Den: by * l.Den}
	for _, r := range l.Rows {
		row := make([]int, len(r))
		for c, x := range r {
			row[c] = by * x
		}
		m.Rows = append(m.Rows, row)
	}
	for range n.between(0, 6) {
		from, to, times := n.between(0, len(m.Rows)-1), n.between(0, len(m.Rows)-1), n.between(-2, 2)
		if from == to {
			m.Rows = append(m.Rows, append([]int{}, m.Rows[from]...))
			continue
		}
		for c, x := range m.Rows[from] {
			m.Rows[to][c] += times * x
		}
	}
	return m
}

// rat is a fraction of any size.
func rat(num, den int) *big.Rat { return big.NewRat(int64(num), int64(den)) }

// slow is an element whose numbers are fractions of any size.
type slow [4]*big.Rat

func slowOf(q api.Quat) slow {
	return slow{rat(q.W, q.Den), rat(q.X, q.Den), rat(q.Y, q.Den), rat(q.Z, q.Den)}
}

func (p slow) plus(q slow) slow {
	var sum slow
	for c := range p {
		sum[c] = new(big.Rat).Add(p[c], q[c])
	}
	return sum
}

func (p slow) scaled(by *big.Rat) slow {
	var s slow
	for c := range p {
		s[c] = new(big.Rat).Mul(p[c], by)
	}
	return s
}

func (p slow) trace() *big.Rat { return new(big.Rat).Add(p[0], p[0]) }

func (p slow) conjugate() slow {
	s := p.scaled(rat(-1, 1))
	s[0] = p[0]
	return s
}

// times is the product by the rules i^2 = A, j^2 = B, j i = -i j alone: the place with the bits x and y is that of i^x j^y.
func (p slow) times(a api.Algebra, q slow) slow {
	product := slow{new(big.Rat), new(big.Rat), new(big.Rat), new(big.Rat)}
	for m, c := range p {
		for n, d := range q {
			term := new(big.Rat).Mul(c, d)
			if m&2 != 0 && n&1 != 0 {
				term.Neg(term)
			}
			if m&1 != 0 && n&1 != 0 {
				term.Mul(term, rat(a.A, 1))
			}
			if m&2 != 0 && n&2 != 0 {
				term.Mul(term, rat(a.B, 1))
			}
			product[m^n] = new(big.Rat).Add(product[m^n], term)
		}
	}
	return product
}

// norm is the product with the conjugate, which is rational.
func (p slow) norm(a api.Algebra) *big.Rat { return p.times(a, p.conjugate())[0] }

// slowRows are the elements that span a lattice.
func slowRows(l api.Lattice) []slow {
	var list []slow
	for _, r := range l.Rows {
		list = append(list, slow{rat(r[0], l.Den), rat(r[1], l.Den), rat(r[2], l.Den), rat(r[3], l.Den)})
	}
	return list
}

// echelon is the triangular basis of the lattice that elements span: the one with the place c as its first place is number c, if there is one; numbers above are from 0 to that place less 1.
type echelon [4]*slow

func echelonOf(elements []slow) echelon {
	var h echelon
	for _, x := range elements {
		h.insert(x)
	}
	for c := 3; c >= 0; c-- {
		for d := c + 1; h[c] != nil && d < 4; d++ {
			if h[d] != nil {
				*h[c] = h[c].plus(h[d].scaled(new(big.Rat).Neg(down(h[c][d], h[d][d]))))
			}
		}
	}
	return h
}

// down is x / y, rounded down, for positive y.
func down(x, y *big.Rat) *big.Rat {
	q := new(big.Rat).Quo(x, y)
	return new(big.Rat).SetInt(new(big.Int).Div(q.Num(), q.Denom()))
}

func (h *echelon) insert(x slow) {
	for c := range h {
		for x[c].Sign() != 0 {
			if x[c].Sign() < 0 {
				x = x.scaled(rat(-1, 1))
			}
			y := x
			if h[c] == nil {
				h[c] = &y
				return
			}
			x = h[c].plus(y.scaled(new(big.Rat).Neg(down(h[c][c], y[c]))))
			h[c] = &y
		}
	}
}

// holds reports whether x is in the lattice.
func (h echelon) holds(x slow) bool {
	for c := range h {
		if h[c] == nil {
			if x[c].Sign() != 0 {
				return false
			}
			continue
		}
		q := new(big.Rat).Quo(x[c], h[c][c])
		if !q.IsInt() {
			return false
		}
		x = x.plus(h[c].scaled(q.Neg(q)))
	}
	return true
}

// elements are those of the basis.
func (h echelon) elements() []slow {
	var list []slow
	for _, x := range h {
		if x != nil {
			list = append(list, *x)
		}
	}
	return list
}

// holdsAll reports whether all elements are in the lattice.
func (h echelon) holdsAll(list []slow) bool {
	for _, x := range list {
		if !h.holds(x) {
			return false
		}
	}
	return true
}

// products are those of the elements of two lists.
func products(a api.Algebra, l, m []slow) []slow {
	var list []slow
	for _, x := range l {
		for _, y := range m {
			list = append(list, x.times(a, y))
		}
	}
	return list
}

// isOrder reports whether the lattice has the rank 4, contains 1, and the products of its elements.
func (h echelon) isOrder(a api.Algebra) bool {
	l := h.elements()
	return len(l) == 4 && h.holds(slowOf(one)) && h.holdsAll(products(a, l, l))
}

// discriminant is the one of an order, by its definition.
func (h echelon) discriminant(a api.Algebra) *big.Int {
	var m [4][4]*big.Rat
	for c, x := range h {
		for d, y := range h {
			m[c][d] = x.times(a, *y).trace()
		}
	}
	d := determinant(m)
	return new(big.Int).Sqrt(d.Abs(d).Num())
}

// determinant is the sum over all permutations.
func determinant(m [4][4]*big.Rat) *big.Rat {
	sum := new(big.Rat)
	for a := range 4 {
		for b := range 4 {
			for c := range 4 {
				d := 6 - a - b - c
				if a == b || a == c || b == c {
					continue
				}
				term := rat(1, 1)
				for place, column := range []int{a, b, c, d} {
					term.Mul(term, m[place][column])
				}
				sign := (b - a) * (c - a) * (c - b) * (d - a) * (d - b) * (d - c)
				if sign < 0 {
					term.Neg(term)
				}
				sum.Add(sum, term)
			}
		}
	}
	return sum
}

// small is the lattice, which has the rank 4, in normal form, and whether no number is greater than MaxCoord.
func (h echelon) small() (api.Lattice, bool) {
	den := big.NewInt(1)
	for _, x := range h {
		for _, r := range x {
			g := new(big.Int).GCD(nil, nil, den, r.Denom())
			den.Mul(den, g.Div(r.Denom(), g))
		}
	}
	most := big.NewInt(coord)
	l, fits := api.Lattice{Dim: 4, Den: int(den.Int64())}, den.Cmp(most) <= 0
	for _, x := range h {
		var row []int
		for _, r := range x.scaled(new(big.Rat).SetInt(den)) {
			fits = fits && r.Num().Cmp(most) <= 0
			row = append(row, int(r.Num().Int64()))
		}
		l.Rows = append(l.Rows, row)
	}
	return l, fits
}

// result is an order in normal form, or ErrLarge if Check has it for the order.
func (h echelon) result(a api.Algebra) (api.Lattice, api.Errno) {
	l, fits := h.small()
	if !fits || h.discriminant(a).Cmp(big.NewInt(api.MaxDisc)) > 0 {
		return api.Lattice{}, api.ErrLarge
	}
	return l, api.OK
}

// discriminants of an algebra and of an order.
func discriminants(t *testing.T, a api.Algebra, l api.Lattice) (ofAlgebra, ofOrder int) {
	t.Helper()
	return made[int](t)(algebra.Discriminant(a)), made[int](t)(order.Discriminant(a, l))
}

// isPart reports whether each element of l is in m.
func isPart(l, m api.Lattice) bool {
	return echelonOf(slowRows(m)).holdsAll(slowRows(l))
}
