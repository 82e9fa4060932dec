package brandt_test

import (
	"fmt"
	"math"
	"math/big"
	"reflect"
	"testing"

	"fourfold/api"
	"fourfold/ideal"
	"fourfold/order"
)

const (
	least    = math.MinInt
	greatest = math.MaxInt
	coord    = api.MaxCoord
	million  = 1000000
	billion  = 1000000000
)

var (
	hamilton = api.Algebra{A: -1, B: -1}
	eleven   = api.Algebra{A: -1, B: -11} // ramified at 11 and infinity
	thirty   = api.Algebra{A: -3, B: -10} // ramified at 2, 3, 5 and infinity
	six      = api.Algebra{A: -1, B: 3}   // ramified at 2 and 3
	matrices = api.Algebra{A: 1, B: 1}    // splits

	lipschitz = of(1, [4]int{1, 0, 0, 0}, [4]int{0, 1, 0, 0}, [4]int{0, 0, 1, 0}, [4]int{0, 0, 0, 1})
	hurwitz   = of(2, [4]int{1, 1, 1, 1}, [4]int{0, 2, 0, 0}, [4]int{0, 0, 2, 0}, [4]int{0, 0, 0, 2})
)

// of is the lattice of the combinations of rows / den.
func of(den int, rows ...[4]int) api.Lattice {
	l := api.Lattice{Dim: 4, Den: den}
	for _, r := range rows {
		l.Rows = append(l.Rows, append([]int{}, r[:]...))
	}
	return l
}

// want compares comparable results.
func want[T comparable](t *testing.T, what string, got, wanted T) {
	t.Helper()
	if got != wanted {
		t.Errorf("%s: %v, want %v", what, got, wanted)
	}
}

// same compares results, where a nil slice and an empty one are the same.
func same(a, b any) bool {
	return fmt.Sprintf("%T %v", a, a) == fmt.Sprintf("%T %v", b, b)
}

// wantResult compares a result and an error.
func wantResult(t *testing.T, what string, got any, e api.Errno, wanted any, f api.Errno) {
	t.Helper()
	if e != f || !same(got, wanted) {
		t.Errorf("%s: %v, error %d, want %v, error %d", what, got, e, wanted, f)
	}
}

// wantError checks that there is this error, and that every other result is its zero value.
func wantError(t *testing.T, what string, f api.Errno, results ...any) {
	t.Helper()
	last := len(results) - 1
	want(t, what, results[last].(api.Errno), f)
	for _, r := range results[:last] {
		if v := reflect.ValueOf(r); !v.IsZero() && (v.Kind() != reflect.Slice || v.Len() > 0) {
			t.Errorf("%s: %v beside the error", what, r)
		}
	}
}

// made is the result of a function that has to be OK.
func made[T any](t *testing.T) func(result T, e api.Errno) T {
	return func(result T, e api.Errno) T {
		t.Helper()
		if e != api.OK {
			t.Fatalf("no result, but error %d", e)
		}
		return result
	}
}

// all gives all results of a function as a list.
func all(results ...any) []any { return results }

// eichler is an order of a level.
func eichler(t *testing.T, a api.Algebra, level int) api.Lattice {
	t.Helper()
	return made[api.Lattice](t)(order.Eichler(a, made[api.Lattice](t)(order.Maximal(a, lipschitz)), level))
}

// classes is a class set of an order of a level.
func classes(t *testing.T, a api.Algebra, level int) api.Classes {
	t.Helper()
	return made[api.Classes](t)(ideal.ClassSet(a, eichler(t, a, level)))
}

// genus is an algebra and a level.
type genus struct {
	a     api.Algebra
	level int
}

// genera are some with few classes.
func genera() []genus {
	return []genus{{hamilton, 1}, {hamilton, 7}, {hamilton, 13}, {hamilton, 15}, {api.Algebra{A: -1, B: -7}, 3}, {eleven, 1}, {eleven, 2}, {api.Algebra{A: -1, B: -23}, 1}, {api.Algebra{A: -2, B: -37}, 1}, {thirty, 1}, {thirty, 7}}
}

// numbers yields numbers that follow a rule without a pattern, the same ones each time.
type numbers uint64

func (n *numbers) next() uint64 {
	*n += 0x9e3779b97f4a7c15
	z := uint64(*n)
	z = (z ^ z>>30) * 0xbf58476d1ce4e5b9
	z = (z ^ z>>27) * 0x94d049bb133111eb
	return z ^ z>>31
}

// between is a number from a to b.
func (n *numbers) between(a, b int) int { return a + int(n.next()%uint64(b-a+1)) }

// one is an element of a list.
func one[T any](n *numbers, list ...T) T { return list[n.between(0, len(list)-1)] }

// quat is an element with numerators up to most, and a denominator up to den.
func (n *numbers) quat(most, den int) api.Quat {
	c := func() int { return n.between(-most, most) }
	return api.Quat{W: c(), X: c(), Y: c(), Z: c(), Den: n.between(1, den)}
}

// rewritten is the same lattice with other rows and another denominator.
func (n *numbers) rewritten(l api.Lattice) api.Lattice {
	by := n.between(1, 3)
	m := api.Lattice{Dim: l.Dim, Den: by * l.Den}
	for _, r := range l.Rows {
		row := make([]int, len(r))
		for c, x := range r {
			row[c] = by * x
		}
		m.Rows = append(m.Rows, row)
	}
	for range n.between(0, 6) {
		from, to, times := n.between(0, len(m.Rows)-1), n.between(0, len(m.Rows)-1), n.between(-2, 2)
		if from == to {
			m.Rows = append(m.Rows, append([]int{}, m.Rows[from]...))
			continue
		}
		for c, x := range m.Rows[from] {
			m.Rows[to][c] += times * x
		}
	}
	return m
}

// shuffled is a class set of the same order: the ideals but the first one stand in another order, are multiplied by elements, and have other rows.
func (n *numbers) shuffled(t *testing.T, a api.Algebra, c api.Classes) api.Classes {
	t.Helper()
	d := api.Classes{Order: n.rewritten(c.Order), Disc: c.Disc, Level: c.Level, Ideals: append([]api.Lattice{}, c.Ideals...), Units: append([]int{}, c.Units...)}
	for i := len(d.Ideals) - 1; i > 0; i-- {
		j := n.between(1, i)
		d.Ideals[i], d.Ideals[j] = d.Ideals[j], d.Ideals[i]
		d.Units[i], d.Units[j] = d.Units[j], d.Units[i]
		x := n.quat(3, 3)
		x.W += 7
		d.Ideals[i] = n.rewritten(made[api.Lattice](t)(ideal.Times(a, x, d.Ideals[i])))
	}
	return d
}

// matrix is a square matrix with elements up to most.
func (n *numbers) matrix(rows, most int) [][]int {
	m := make([][]int, rows)
	for i := range m {
		for range rows {
			m[i] = append(m[i], n.between(-most, most))
		}
	}
	return m
}

// rat is a fraction of any size.
func rat(num, den int) *big.Rat { return big.NewRat(int64(num), int64(den)) }

// common is the greatest common divisor of two numbers that are not negative.
func common(m, n int) int {
	return int(new(big.Int).GCD(nil, nil, big.NewInt(int64(m)), big.NewInt(int64(n))).Int64())
}

// frac is a fraction of ints in lowest terms.
func frac(r *big.Rat) api.Frac {
	return api.Frac{Num: int(r.Num().Int64()), Den: int(r.Denom().Int64())}
}

// toBig is the value of an integer.
func toBig(x api.Int) *big.Int {
	b := new(big.Int)
	for i := len(x.Words) - 1; i >= 0; i-- {
		b.Lsh(b, 32)
		b.Add(b, big.NewInt(int64(x.Words[i])))
	}
	if x.Neg {
		b.Neg(b)
	}
	return b
}

// toInt is an integer in normal form.
func toInt(b *big.Int) api.Int {
	x := api.Int{Neg: b.Sign() < 0}
	for rest := new(big.Int).Abs(b); rest.Sign() > 0; rest.Rsh(rest, 32) {
		x.Words = append(x.Words, uint32(rest.Uint64()))
	}
	return x
}

// power is base to the exponent.
func power(base, exponent int) *big.Int {
	return new(big.Int).Exp(big.NewInt(int64(base)), big.NewInt(int64(exponent)), nil)
}

// poly is a polynomial with fractions of any size, from the constant coefficient on.
type poly []*big.Rat

// polyOf is the polynomial with these coefficients.
func polyOf(list ...int) poly {
	var p poly
	for _, n := range list {
		p = append(p, rat(n, 1))
	}
	return p.trimmed()
}

// polyFrom is the value of a polynomial.
func polyFrom(list []api.Int) poly {
	var p poly
	for _, x := range list {
		p = append(p, new(big.Rat).SetInt(toBig(x)))
	}
	return p.trimmed()
}

// ints are the coefficients, which have to be integers, in normal form.
func (p poly) ints() []api.Int {
	var list []api.Int
	for _, r := range p {
		if !r.IsInt() {
			panic("no integer")
		}
		list = append(list, toInt(r.Num()))
	}
	return list
}

func (p poly) trimmed() poly {
	for len(p) > 0 && p[len(p)-1].Sign() == 0 {
		p = p[:len(p)-1]
	}
	return p
}

func (p poly) degree() int { return len(p) - 1 }

func (p poly) lead() *big.Rat { return p[len(p)-1] }

func (p poly) scaled(by *big.Rat) poly {
	var q poly
	for _, r := range p {
		q = append(q, new(big.Rat).Mul(r, by))
	}
	return q.trimmed()
}

func (p poly) times(q poly) poly {
	if len(p) == 0 || len(q) == 0 {
		return nil
	}
	var list poly
	for range len(p) + len(q) - 1 {
		list = append(list, new(big.Rat))
	}
	for i, x := range p {
		for j, y := range q {
			list[i+j].Add(list[i+j], new(big.Rat).Mul(x, y))
		}
	}
	return list
}

// divided are the quotient and the remainder over the fractions.
func (p poly) divided(q poly) (quotient, rest poly) {
	rest = p.scaled(rat(1, 1))
	quotient = make(poly, max(0, len(p)-len(q)+1))
	for i := len(quotient) - 1; i >= 0; i-- {
		by := new(big.Rat).Quo(rest[i+q.degree()], q.lead())
		quotient[i] = by
		for j, x := range q {
			rest[i+j].Sub(rest[i+j], new(big.Rat).Mul(by, x))
		}
	}
	return quotient, rest.trimmed()
}

func (p poly) derivative() poly {
	var q poly
	for i := 1; i < len(p); i++ {
		q = append(q, new(big.Rat).Mul(p[i], rat(i, 1)))
	}
	return q
}

// primitive is p times the positive fraction that makes the coefficients integers without a common divisor.
func (p poly) primitive() poly {
	num, den := new(big.Int), big.NewInt(1)
	for _, r := range p {
		num.GCD(nil, nil, num, new(big.Int).Abs(r.Num()))
		g := new(big.Int).GCD(nil, nil, den, r.Denom())
		den.Mul(den, new(big.Int).Div(r.Denom(), g))
	}
	return p.scaled(new(big.Rat).SetFrac(den, num))
}

// standard is the primitive polynomial with a positive leading coefficient.
func (p poly) standard() poly {
	if p.lead().Sign() < 0 {
		p = p.scaled(rat(-1, 1))
	}
	return p.primitive()
}

// sturm is the Sturm chain by its definition.
func (p poly) sturm() []poly {
	f, g := p, p.derivative()
	for len(g) > 0 {
		_, rest := f.divided(g)
		f, g = g, rest
	}
	s, _ := p.divided(f)
	chain := []poly{s.standard()}
	if s.degree() == 0 {
		return chain
	}
	chain = append(chain, s.standard().derivative().primitive())
	for last := chain[1]; last.degree() > 0; last = chain[len(chain)-1] {
		_, rest := chain[len(chain)-2].divided(last)
		chain = append(chain, rest.scaled(rat(-1, 1)).primitive())
	}
	return chain
}

// at is the value.
func (p poly) at(x *big.Rat) *big.Rat {
	value := new(big.Rat)
	for i := len(p) - 1; i >= 0; i-- {
		value.Mul(value, x)
		value.Add(value, p[i])
	}
	return value
}

// poly is a polynomial of a degree with coefficients up to most.
func (n *numbers) poly(degree, most int) poly {
	var p poly
	for range degree {
		p = append(p, rat(n.between(-most, most), 1))
	}
	return append(p, rat(one(n, 1, -1)*n.between(1, most), 1))
}

// large is an integer with up to this many bits.
func (n *numbers) large(bits int) *big.Int {
	b := new(big.Int)
	for range bits/32 + 1 {
		b.Lsh(b, 32)
		b.Add(b, big.NewInt(int64(uint32(n.next()))))
	}
	b.Rsh(b, uint(b.BitLen()-n.between(0, min(bits, b.BitLen()))))
	if n.between(0, 1) == 0 {
		b.Neg(b)
	}
	return b
}
