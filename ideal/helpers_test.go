package ideal_test

import (
	"fmt"
	"math"
	"math/big"
	"reflect"
	"testing"

	"fourfold/algebra"
	"fourfold/api"
	"fourfold/order"
)

const (
	least    = math.MinInt
	greatest = math.MaxInt
	coord    = api.MaxCoord
)

var (
	hamilton = api.Algebra{A: -1, B: -1}
	eleven   = api.Algebra{A: -1, B: -11} // ramified at 11 and infinity
	six      = api.Algebra{A: -1, B: 3}   // ramified at 2 and 3
	matrices = api.Algebra{A: 1, B: 1}    // splits

	one = api.Quat{W: 1, Den: 1}

	lipschitz = of(1, [4]int{1, 0, 0, 0}, [4]int{0, 1, 0, 0}, [4]int{0, 0, 1, 0}, [4]int{0, 0, 0, 1})
	hurwitz   = of(2, [4]int{1, 1, 1, 1}, [4]int{0, 2, 0, 0}, [4]int{0, 0, 2, 0}, [4]int{0, 0, 0, 2})
)

// of is the lattice of the combinations of rows / den.
func of(den int, rows ...[4]int) api.Lattice {
	l := api.Lattice{Dim: 4, Den: den}
	for _, r := range rows {
		l.Rows = append(l.Rows, append([]int{}, r[:]...))
	}
	return l
}

// want compares comparable results.
func want[T comparable](t *testing.T, what string, got, wanted T) {
	t.Helper()
	if got != wanted {
		t.Errorf("%s: %v, want %v", what, got, wanted)
	}
}

// wantResult compares a result and an error, where a nil slice and an empty one are the same.
func wantResult(t *testing.T, what string, got any, e api.Errno, wanted any, f api.Errno) {
	t.Helper()
	if e != f || fmt.Sprintf("%T %v", got, got) != fmt.Sprintf("%T %v", wanted, wanted) {
		t.Errorf("%s: %v, error %d, want %v, error %d", what, got, e, wanted, f)
	}
}

// wantError checks that there is this error, and that every other result is its zero value.
func wantError(t *testing.T, what string, f api.Errno, results ...any) {
	t.Helper()
	last := len(results) - 1
	want(t, what, results[last].(api.Errno), f)
	for _, r := range results[:last] {
		if v := reflect.ValueOf(r); !v.IsZero() && (v.Kind() != reflect.Slice || v.Len() > 0) {
			t.Errorf("%s: %v beside the error", what, r)
		}
	}
}

// made is the result of a function that has to be OK.
func made[T any](t *testing.T) func(result T, e api.Errno) T {
	return func(result T, e api.Errno) T {
		t.Helper()
		if e != api.OK {
			t.Fatalf("no result, but error %d", e)
		}
		return result
	}
}

// all gives all results of a function as a list.
func all(results ...any) []any { return results }

// maximal is a maximal order of an algebra.
func maximal(t *testing.T, a api.Algebra) api.Lattice {
	t.Helper()
	return made[api.Lattice](t)(order.Maximal(a, lipschitz))
}

// eichler is an order of a level.
func eichler(t *testing.T, a api.Algebra, level int) api.Lattice {
	t.Helper()
	return made[api.Lattice](t)(order.Eichler(a, maximal(t, a), level))
}

// numbers yields numbers that follow a rule without a pattern, the same ones each time.
type numbers uint64

func (n *numbers) next() uint64 {
	*n += 0x9e3779b97f4a7c15
	z := uint64(*n)
	z = (z ^ z>>30) * 0xbf58476d1ce4e5b9
	z = (z ^ z>>27) * 0x94d049bb133111eb
	return z ^ z>>31
}

// between is a number from a to b.
func (n *numbers) between(a, b int) int { return a + int(n.next()%uint64(b-a+1)) }

// quat is an element with numerators up to most, and a denominator up to den.
func (n *numbers) quat(most, den int) api.Quat {
	c := func() int { return n.between(-most, most) }
	return api.Quat{W: c(), X: c(), Y: c(), Z: c(), Den: n.between(1, den)}
}

// algebra is an algebra with numbers up to most.
func (n *numbers) algebra(most int) api.Algebra {
	sign := func() int { return 1 - 2*n.between(0, 1) }
	return api.Algebra{A: sign() * n.between(1, most), B: sign() * n.between(1, most)}
}

// definite is a definite algebra with numbers up to most.
func (n *numbers) definite(most int) api.Algebra {
	return api.Algebra{A: -n.between(1, most), B: -n.between(1, most)}
}

// order is a standard, a maximal or another hereditary order.
func (n *numbers) order(a api.Algebra) api.Lattice {
	largest, e := order.Maximal(a, lipschitz)
	kind := n.between(0, 3)
	if e != api.OK || kind == 0 {
		return lipschitz
	}
	if kind == 1 {
		if l, e := order.Eichler(a, largest, n.between(1, 15)); e == api.OK {
			return l
		}
	}
	return largest
}

// lattice is a lattice of rank 4 with any rows, or one that has to do with an order.
func (n *numbers) lattice(a api.Algebra) api.Lattice {
	for {
		if g := n.grid(a); g.canonical() != nil {
			if l, fits := g.small(); fits {
				return l
			}
		}
	}
}

// grid is such a lattice, which need not fit, and whose rank may be less.
func (n *numbers) grid(a api.Algebra) grid {
	o := slowRows(n.order(a))
	x, y := slowOf(n.quat(3, 2)), slowOf(n.quat(2, 2))
	moved := products(a, []slow{x}, o)
	switch n.between(0, 4) {
	case 0:
		return n.rows([]int{1, 3, 9, 200}[n.between(0, 3)])
	case 1: // with other orders on both sides
		return products(a, moved, []slow{y})
	case 2: // an ideal that two elements generate
		return append(moved, products(a, []slow{y}, o)...)
	case 3:
		return append(moved, slowRows(lipschitz)...)
	}
	return moved
}

// rows are four elements.
func (n *numbers) rows(most int) grid {
	den := n.between(1, 4)
	var list grid
	for range 4 {
		q := n.quat(most, 1)
		q.Den = den
		list = append(list, slowOf(q))
	}
	return list
}

// rewritten is the same lattice with other rows and another denominator.
func (n *numbers) rewritten(l api.Lattice) api.Lattice {
	by := n.between(1, 3)
	m := api.Lattice{Dim: l.Dim, Den: by * l.Den}
	for _, r := range l.Rows {
		row := make([]int, len(r))
		for c, x := range r {
			row[c] = by * x
		}
		m.Rows = append(m.Rows, row)
	}
	for range n.between(0, 6) {
		from, to, times := n.between(0, len(m.Rows)-1), n.between(0, len(m.Rows)-1), n.between(-2, 2)
		if from == to {
			m.Rows = append(m.Rows, append([]int{}, m.Rows[from]...))
			continue
		}
		for c, x := range m.Rows[from] {
			m.Rows[to][c] += times * x
		}
	}
	return m
}

// rat is a fraction of any size.
func rat(num, den int) *big.Rat { return big.NewRat(int64(num), int64(den)) }

// slow is an element whose numbers are fractions of any size.
type slow [4]*big.Rat

func slowOf(q api.Quat) slow {
	return slow{rat(q.W, q.Den), rat(q.X, q.Den), rat(q.Y, q.Den), rat(q.Z, q.Den)}
}

// unit is the number c of the basis 1, i, j, k.
func unit(c int) slow {
	s := slow{rat(0, 1), rat(0, 1), rat(0, 1), rat(0, 1)}
	s[c] = rat(1, 1)
	return s
}

func (p slow) plus(q slow) slow {
	var sum slow
	for c := range p {
		sum[c] = new(big.Rat).Add(p[c], q[c])
	}
	return sum
}

func (p slow) scaled(by *big.Rat) slow {
	var s slow
	for c := range p {
		s[c] = new(big.Rat).Mul(p[c], by)
	}
	return s
}

func (p slow) conjugate() slow {
	s := p.scaled(rat(-1, 1))
	s[0] = p[0]
	return s
}

// times is the product by the rules i^2 = A, j^2 = B, j i = -i j alone: the place with the bits x and y is that of i^x j^y.
func (p slow) times(a api.Algebra, q slow) slow {
	product := unit(0).plus(unit(0).scaled(rat(-1, 1)))
	for m, c := range p {
		for n, d := range q {
			factor := 1
			if m&2 != 0 && n&1 != 0 {
				factor = -1
			}
			if m&1 != 0 && n&1 != 0 {
				factor *= a.A
			}
			if m&2 != 0 && n&2 != 0 {
				factor *= a.B
			}
			term := new(big.Rat).Mul(c, d)
			product[m^n].Add(product[m^n], term.Mul(term, rat(factor, 1)))
		}
	}
	return product
}

// norm is the product with the conjugate, which is rational.
func (p slow) norm(a api.Algebra) *big.Rat { return p.times(a, p.conjugate())[0] }

// quat is the element in lowest terms, and whether it fits.
func (p slow) quat() (api.Quat, bool) {
	den := common(p)
	var n [4]int
	fits := den.Cmp(big.NewInt(coord)) <= 0
	for c, r := range p.scaled(new(big.Rat).SetInt(den)) {
		n[c] = int(r.Num().Int64())
		fits = fits && r.Num().CmpAbs(big.NewInt(coord)) <= 0
	}
	return api.Quat{W: n[0], X: n[1], Y: n[2], Z: n[3], Den: int(den.Int64())}, fits
}

// common is the least common denominator of elements.
func common(list ...slow) *big.Int {
	den := big.NewInt(1)
	for _, x := range list {
		for _, r := range x {
			g := new(big.Int).GCD(nil, nil, den, r.Denom())
			den.Mul(den, g.Div(r.Denom(), g))
		}
	}
	return den
}

// products are those of the elements of two lists.
func products(a api.Algebra, l, m []slow) []slow {
	var list []slow
	for _, x := range l {
		for _, y := range m {
			list = append(list, x.times(a, y))
		}
	}
	return list
}

// grid is the lattice that elements span.
type grid []slow

// slowRows are the elements that span a lattice.
func slowRows(l api.Lattice) grid {
	var list grid
	for _, r := range l.Rows {
		list = append(list, slow{rat(r[0], l.Den), rat(r[1], l.Den), rat(r[2], l.Den), rat(r[3], l.Den)})
	}
	return list
}

// down is x / y, rounded down, for positive y.
func down(x, y *big.Rat) *big.Rat {
	q := new(big.Rat).Quo(x, y)
	return new(big.Rat).SetInt(new(big.Int).Div(q.Num(), q.Denom()))
}

// canonical is the triangular basis in which the numbers above those of the diagonal are from 0 to that number less 1, or nil if the rank is less than 4.
func (g grid) canonical() grid {
	rest := append(grid{}, g...)
	var basis grid
	for c := range 4 {
		pivot := -1
		for again := true; again; { // Euclid's algorithm, over the whole column
			again = false
			for r := range rest {
				switch {
				case rest[r][c].Sign() == 0 || r == pivot:
				case pivot < 0:
					pivot = r
				default:
					if new(big.Rat).Abs(rest[r][c]).Cmp(new(big.Rat).Abs(rest[pivot][c])) < 0 {
						pivot, r = r, pivot
					}
					if rest[pivot][c].Sign() < 0 {
						rest[pivot] = rest[pivot].scaled(rat(-1, 1))
					}
					rest[r] = rest[r].plus(rest[pivot].scaled(new(big.Rat).Neg(down(rest[r][c], rest[pivot][c]))))
					again = true
				}
			}
		}
		if pivot < 0 {
			return nil
		}
		if rest[pivot][c].Sign() < 0 {
			rest[pivot] = rest[pivot].scaled(rat(-1, 1))
		}
		basis = append(basis, rest[pivot])
		rest = append(rest[:pivot], rest[pivot+1:]...)
	}
	for r := 2; r >= 0; r-- {
		for c := r + 1; c < 4; c++ {
			basis[r] = basis[r].plus(basis[c].scaled(new(big.Rat).Neg(down(basis[r][c], basis[c][c]))))
		}
	}
	return basis
}

// coordinates are those of x in a triangular basis.
func (g grid) coordinates(x slow) slow {
	var list slow
	for c, b := range g {
		list[c] = new(big.Rat).Quo(x[c], b[c])
		x = x.plus(b.scaled(new(big.Rat).Neg(list[c])))
	}
	return list
}

// holds reports whether all elements of a list are in the lattice with this triangular basis.
func (g grid) holds(list ...slow) bool {
	for _, x := range list {
		for _, n := range g.coordinates(x) {
			if !n.IsInt() {
				return false
			}
		}
	}
	return true
}

// volume is the product of the diagonal of a triangular basis.
func (g grid) volume() *big.Rat {
	product := rat(1, 1)
	for c, b := range g {
		product.Mul(product, b[c])
	}
	return product
}

// small is the lattice in normal form, and whether it fits.
func (g grid) small() (api.Lattice, bool) {
	basis := g.canonical()
	den := common(basis...)
	l, fits := api.Lattice{Dim: 4, Den: int(den.Int64())}, den.Cmp(big.NewInt(coord)) <= 0
	for _, x := range basis {
		var row []int
		for _, r := range x.scaled(new(big.Rat).SetInt(den)) {
			fits = fits && r.Num().Cmp(big.NewInt(coord)) <= 0
			row = append(row, int(r.Num().Int64()))
		}
		l.Rows = append(l.Rows, row)
	}
	return l, fits
}

// lattice is the lattice in normal form.
func (g grid) lattice() api.Lattice {
	l, _ := g.small()
	return l
}

// result is the lattice as a result: in normal form, or ErrLarge.
func (g grid) result() (api.Lattice, api.Errno) {
	if l, fits := g.small(); fits {
		return l, api.OK
	}
	return api.Lattice{}, api.ErrLarge
}

// isSame reports whether two lists span the same lattice.
func (g grid) isSame(h grid) bool {
	return fmt.Sprint(g.canonical()) == fmt.Sprint(h.canonical())
}

// whole is the lattice of all x whose products with the elements of a list, by coordinates, are integers.
func whole(conditions []slow) grid {
	basis := grid(conditions).canonical()
	// The columns of the inverse of the triangular matrix.
	var columns grid
	for c := range 4 {
		x := unit(c).scaled(rat(0, 1))
		for r := c; r >= 0; r-- {
			rest := new(big.Rat).Set(unit(c)[r])
			for k := r + 1; k < 4; k++ {
				rest.Sub(rest, new(big.Rat).Mul(basis[r][k], x[k]))
			}
			x[r] = rest.Quo(rest, basis[r][r])
		}
		columns = append(columns, x)
	}
	return columns
}

// taking is the lattice of all x whose products, made by multiply with each element of m, are in l. Its conditions are those of the coordinates of these products.
func taking(l, m grid, multiply func(x, y slow) slow) grid {
	basis := l.canonical()
	var conditions []slow
	for _, y := range m {
		var places [4]slow
		for c := range places {
			places[c] = basis.coordinates(multiply(unit(c), y))
		}
		for c := range 4 {
			conditions = append(conditions, slow{places[0][c], places[1][c], places[2][c], places[3][c]})
		}
	}
	return whole(conditions)
}

// leftOrder and rightOrder are the orders by their definition, and into is the lattice of all x with x m in l.
func into(a api.Algebra, l, m grid) grid {
	return taking(l, m, func(x, y slow) slow { return x.times(a, y) })
}

func leftOrder(a api.Algebra, l grid) grid { return into(a, l, l) }

func rightOrder(a api.Algebra, l grid) grid {
	return taking(l, l, func(x, y slow) slow { return y.times(a, x) })
}

// norm is the greatest common divisor of the norms of the elements and of the sums of two of them.
func (g grid) norm(a api.Algebra) *big.Rat {
	divisor := rat(0, 1)
	add := func(n *big.Rat) {
		for n = new(big.Rat).Abs(n); n.Sign() != 0; {
			divisor, n = n, new(big.Rat).Sub(divisor, new(big.Rat).Mul(n, down(divisor, n)))
		}
	}
	for _, x := range g {
		for _, y := range append(grid{x.scaled(rat(0, 1))}, g...) {
			add(x.plus(y).norm(a))
		}
	}
	return divisor
}

// inverse is the conjugate, divided by the norm.
func (g grid) inverse(a api.Algebra) grid {
	by := new(big.Rat).Inv(g.norm(a))
	var list grid
	for _, x := range g {
		list = append(list, x.conjugate().scaled(by))
	}
	return list
}

// fraction is a fraction as a result: in lowest terms, or ErrLarge.
func fraction(r *big.Rat) (api.Frac, api.Errno) {
	if !r.Num().IsInt64() || !r.Denom().IsInt64() {
		return api.Frac{}, api.ErrLarge
	}
	return api.Frac{Num: int(r.Num().Int64()), Den: int(r.Denom().Int64())}, api.OK
}

// discriminant is that of an algebra.
func discriminant(t *testing.T, a api.Algebra) int {
	t.Helper()
	return made[int](t)(algebra.Discriminant(a))
}
