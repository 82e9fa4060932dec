package brandt_test

import (
	"fmt"
	"math/big"
	"testing"

	"fourfold/api"
	"fourfold/brandt"
)

// The tests of this file are those of P8.3.

// leverrier is the characteristic polynomial by sums of traces of powers.
func leverrier(m [][]int) poly {
	n := len(m)
	p := make(poly, n+1)
	p[n] = rat(1, 1)
	rest := make([][]*big.Int, n) // m times the last one, plus the last coefficient
	for i := range rest {
		rest[i] = make([]*big.Int, n)
		for j := range rest[i] {
			rest[i][j] = new(big.Int)
		}
		rest[i][i].SetInt64(1)
	}
	for k := n - 1; k >= 0; k-- {
		next := make([][]*big.Int, n)
		trace := new(big.Int)
		for i := range next {
			next[i] = make([]*big.Int, n)
			for j := range next[i] {
				next[i][j] = new(big.Int)
				for l := range n {
					next[i][j].Add(next[i][j], new(big.Int).Mul(big.NewInt(int64(m[i][l])), rest[l][j]))
				}
			}
			trace.Add(trace, next[i][i])
		}
		p[k] = new(big.Rat).SetFrac(trace.Neg(trace), big.NewInt(int64(n-k)))
		for i := range next {
			next[i][i].Add(next[i][i], p[k].Num())
		}
		rest = next
	}
	return p
}

// companion is a matrix with a given characteristic polynomial, whose leading coefficient is 1.
func companion(list ...int) [][]int {
	m := full(len(list), len(list), 0)
	for i, n := range list {
		m[i][len(list)-1] = -n
		if i > 0 {
			m[i][i-1] = 1
		}
	}
	return m
}

func TestCharacteristic(t *testing.T) {
	n := numbers(100)
	for _, rows := range []int{1, 2, 3, 4, 5, 8, 13} {
		for _, most := range []int{1, 2, 30, million} {
			for range 6 {
				m := n.matrix(rows, most)
				if n.between(0, 1) == 0 { // many zeros
					for _, row := range m {
						for j := range row {
							row[j] *= n.between(0, 2) / 2
						}
					}
				}
				p, e := brandt.Characteristic(m)
				wantResult(t, fmt.Sprint("Characteristic ", m), p, e, leverrier(m).ints(), api.OK)
			}
		}
	}
	for _, rows := range []int{30, api.MaxClasses} {
		m := n.matrix(rows, 9)
		p, e := brandt.Characteristic(m)
		wantResult(t, fmt.Sprint("Characteristic ", m), p, e, leverrier(m).ints(), api.OK)
	}
	for _, list := range [][]int{{0}, {5}, {-5}, {0, 0, 0, 0}, {1, 2, 3}, {-6, -1}, {million, -million, 7, 0, 0, 1}} {
		p, e := brandt.Characteristic(companion(list...))
		wantResult(t, fmt.Sprint("Characteristic of a companion ", list), p, e, polyOf(append(list, 1)...).ints(), api.OK)
	}
}

func TestLargeCharacteristic(t *testing.T) {
	// All elements are the same: the polynomial is x^60 - 60 n x^59.
	for _, n := range []int{1, -1, million, -million} {
		p, e := brandt.Characteristic(full(60, 60, n))
		list := make([]int, 61)
		list[60], list[59] = 1, -60*n
		wantResult(t, fmt.Sprint("Characteristic with ", n, " everywhere"), p, e, polyOf(list...).ints(), api.OK)
	}
	// The diagonal alone: (x - n)^60.
	for _, n := range []int{1, -1, million, -million} {
		m := full(60, 60, 0)
		wanted := polyOf(1)
		for i := range m {
			m[i][i] = n
			wanted = wanted.times(polyOf(-n, 1))
		}
		p, e := brandt.Characteristic(m)
		wantResult(t, fmt.Sprint("Characteristic with the diagonal ", n), p, e, wanted.ints(), api.OK)
	}
	// The rows of a matrix of Sylvester are orthogonal: its square is 32 10^12, and its trace is 0.
	m := full(32, 32, million)
	for i := range m {
		for j := range m {
			for bits := i & j; bits > 0; bits &= bits - 1 {
				m[i][j] = -m[i][j]
			}
		}
	}
	wanted := polyOf(1)
	for range 16 {
		wanted = wanted.times(polyOf(-32*million*million, 0, 1))
	}
	p, e := brandt.Characteristic(m)
	wantResult(t, "Characteristic of Sylvester", p, e, wanted.ints(), api.OK)
}

// large is a polynomial whose coefficients have up to this many bits.
func (n *numbers) largePoly(degree, bits int) poly {
	var p poly
	for range degree {
		p = append(p, new(big.Rat).SetInt(n.large(bits)))
	}
	lead := n.large(bits)
	if lead.Sign() == 0 {
		lead.SetInt64(1)
	}
	return append(p, new(big.Rat).SetInt(lead))
}

func TestValue(t *testing.T) {
	n := numbers(101)
	signs := map[int]int{}
	for range 400 {
		x := api.Frac{Num: n.between(-9, 9), Den: n.between(1, 9)}
		if n.between(0, 3) == 0 {
			x = api.Frac{Num: n.between(-billion, billion), Den: one(&n, 1, n.between(1, billion), billion)}
		}
		p := n.poly(n.between(0, 6), 20)
		switch n.between(0, 3) {
		case 0:
			p = n.largePoly(n.between(0, 60), n.between(1, 1000))
		case 1: // with the root x
			p = p.times(poly{rat(-x.Num, 1), rat(x.Den, 1)})
		}
		wanted := p.at(rat(x.Num, x.Den)).Sign()
		signs[wanted]++
		s, e := brandt.Value(p.ints(), x)
		wantResult(t, fmt.Sprint("Value ", p, x), s, e, wanted, api.OK)
	}
	for s := -1; s <= 1; s++ {
		want(t, fmt.Sprint("many values with the sign ", s), signs[s] > 40, true)
	}
	// x^2 - 2 next to its root, with fractions that are not in lowest terms and with the greatest numbers.
	for _, x := range []struct {
		f api.Frac
		s int
	}{{api.Frac{Num: 1414213562, Den: billion}, 0}, {api.Frac{Num: billion, Den: 707106781}, 1}, {api.Frac{Num: billion, Den: 707106782}, -1}, {api.Frac{Num: -billion, Den: 707106782}, -1}, {api.Frac{Num: 282, Den: 200}, -1}, {api.Frac{Num: 283, Den: 200}, 1}, {api.Frac{Num: -billion, Den: billion}, -1}} {
		s, e := brandt.Value(polyOf(-2, 0, 1).ints(), x.f)
		if x.s == 0 {
			wantError(t, fmt.Sprint("Value at ", x.f), api.ErrLarge, s, e)
			continue
		}
		wantResult(t, fmt.Sprint("Value at ", x.f), s, e, x.s, api.OK)
	}
}

func TestDivide(t *testing.T) {
	n := numbers(102)
	none := 0
	for range 400 {
		q, r := n.poly(n.between(0, 6), 9), n.poly(n.between(0, 6), 9)
		if n.between(0, 3) == 0 {
			q, r = n.largePoly(n.between(0, 30), n.between(1, 480)), n.largePoly(n.between(0, 30), n.between(1, 480))
		}
		p := q.times(r)
		result, e := brandt.Divide(p.ints(), q.ints())
		wantResult(t, fmt.Sprint("Divide ", p, q), result, e, r.ints(), api.OK)
		// One of the coefficients is another one now.
		i := n.between(0, len(p)-1)
		p[i] = new(big.Rat).Add(p[i], rat(one(&n, 1, -1), 1))
		if p = p.trimmed(); len(p) == 0 {
			continue
		}
		quotient, rest := p.divided(q)
		wanted := api.OK
		for _, x := range quotient {
			if !x.IsInt() {
				wanted = api.ErrNone
			}
		}
		if len(rest) > 0 {
			wanted = api.ErrNone
		}
		result, e = brandt.Divide(p.ints(), q.ints())
		if wanted == api.OK {
			wantResult(t, fmt.Sprint("Divide ", p, q), result, e, quotient.ints(), api.OK)
			continue
		}
		none++
		wantError(t, fmt.Sprint("Divide ", p, q), wanted, result, e)
	}
	want(t, "many without a quotient", none > 200, true)
	for _, x := range []struct{ p, q, r []int }{
		{[]int{2, 4}, []int{2}, []int{1, 2}}, {[]int{2, 4}, []int{-2}, []int{-1, -2}}, {[]int{2, 4}, []int{4}, nil}, {[]int{0, 1}, []int{0, 2}, nil}, {[]int{1, 1}, []int{2, 2}, nil}, {[]int{2, 2}, []int{1, 1}, []int{2}}, {[]int{-1, 0, 1}, []int{1, 1}, []int{-1, 1}}, {[]int{-1, 0, 1}, []int{1, -1}, []int{-1, -1}}, {[]int{1, 1}, []int{-1, 0, 1}, nil}, {[]int{5}, []int{0, 1}, nil}, {[]int{7}, []int{7}, []int{1}}, {[]int{0, 0, 3}, []int{0, 3}, []int{0, 1}}, {[]int{1, 0, 1}, []int{1, 1}, nil},
	} {
		r, e := brandt.Divide(polyOf(x.p...).ints(), polyOf(x.q...).ints())
		if x.r == nil {
			wantError(t, fmt.Sprint("Divide ", x), api.ErrNone, r, e)
			continue
		}
		wantResult(t, fmt.Sprint("Divide ", x), r, e, polyOf(x.r...).ints(), api.OK)
	}
}

// wantChain checks Squarefree and Sturm by their definitions.
func wantChain(t *testing.T, p poly) {
	t.Helper()
	chain := p.sturm()
	s, e := brandt.Squarefree(p.ints())
	wantResult(t, fmt.Sprint("Squarefree ", p), s, e, chain[0].ints(), api.OK)
	var wanted [][]api.Int
	for _, q := range chain {
		wanted = append(wanted, q.ints())
	}
	list, e := brandt.Sturm(p.ints())
	wantResult(t, fmt.Sprint("Sturm ", p), list, e, wanted, api.OK)
}

func TestSturm(t *testing.T) {
	n := numbers(103)
	for range 300 {
		p := n.poly(n.between(0, 7), one(&n, 1, 2, 9, million))
		for range n.between(0, 3) { // with gaps
			p[n.between(0, len(p)-1)] = rat(0, 1)
		}
		if p = p.trimmed(); len(p) == 0 {
			continue
		}
		wantChain(t, p)
		q := n.poly(n.between(0, 3), 3)
		for range n.between(1, 3) { // with multiple roots
			p = p.times(q)
		}
		wantChain(t, p)
		wantChain(t, p.times(p).scaled(rat(one(&n, -6, -1, 10), 1)))
	}
	for _, list := range [][]int{{1}, {-1}, {6}, {0, 1}, {0, -2}, {3, -6}, {0, 0, 0, 4}, {-2, 0, 1}, {2, 0, -1}, {1, 0, 1}, {0, 0, -1, 1}, {-1, 0, 0, 0, 0, 1}, {1, 1, 0, 0, 0, 0, 0, 1}, {1, 0, 0, 2, 0, 0, 1}, {-6, 11, -6, 1}, {4, 0, 4, 0, 1}} {
		wantChain(t, polyOf(list...))
	}
	for _, x := range []struct {
		degree, bits int
	}{{60, 3}, {24, 30}, {9, 1000}, {1, 1000}, {0, 1000}, {2, 1000}} {
		wantChain(t, n.largePoly(x.degree, x.bits))
	}
	// With the greatest degree and the greatest numbers, where the chain is short.
	great := new(big.Rat).SetInt(new(big.Int).Sub(new(big.Int).Lsh(big.NewInt(1), 1000), big.NewInt(1)))
	p := make(poly, 61)
	for i := range p {
		p[i] = rat(0, 1)
	}
	p[0], p[60] = great, rat(-1, 1)
	wantChain(t, p)
	p[60] = great
	wantChain(t, p)
	p[1], p[59] = great, great
	wantChain(t, p)
	// (x - 1)^60.
	p = polyOf(1)
	for range 60 {
		p = p.times(polyOf(-1, 1))
	}
	wantChain(t, p)
}

func TestExamplesOfSturm(t *testing.T) {
	list, e := brandt.Sturm(polyOf(-2, 0, 1).ints())
	wantResult(t, "Sturm of x^2 - 2", list, e, [][]api.Int{polyOf(-2, 0, 1).ints(), polyOf(0, 1).ints(), polyOf(1).ints()}, api.OK)
	s, e := brandt.Squarefree(polyOf(0, 0, -1, 1).ints())
	wantResult(t, "Squarefree of x^3 - x^2", s, e, polyOf(0, -1, 1).ints(), api.OK)
	for _, n := range []int{1, -1, 7, -12} {
		s, e := brandt.Squarefree(polyOf(n).ints())
		wantResult(t, fmt.Sprint("Squarefree of ", n), s, e, polyOf(1).ints(), api.OK)
		list, e := brandt.Sturm(polyOf(n).ints())
		wantResult(t, fmt.Sprint("Sturm of ", n), list, e, [][]api.Int{polyOf(1).ints()}, api.OK)
		count, e := brandt.Between(polyOf(n).ints(), api.Frac{Num: -5, Den: 1}, api.Frac{Num: 5, Den: 1})
		wantResult(t, fmt.Sprint("Between of ", n), count, e, 0, api.OK)
	}
}

// badPolynomials are no polynomials, with their errors.
func badPolynomials() map[api.Errno][][]api.Int {
	great := toInt(new(big.Int).Lsh(big.NewInt(1), 1000))
	opposite := toInt(new(big.Int).Neg(new(big.Int).Lsh(big.NewInt(1), 1000)))
	long := polyOf(1).ints()
	for range 61 {
		long = append(long, api.Int{})
	}
	return map[api.Errno][][]api.Int{
		api.ErrLarge: {make([]api.Int, 62), make([]api.Int, 1000), long, {great}, {opposite}, {{Neg: true}, great}, {great, {}, {}}, {toInt(big.NewInt(1)), opposite, toInt(big.NewInt(1))}, {{Words: make([]uint32, 32)}, great}},
		api.ErrZero:  {nil, {}, {{}}, {{Neg: true}}, make([]api.Int, 61), {{Words: make([]uint32, 40)}, {Neg: true, Words: []uint32{0}}}},
	}
}

// ofPolynomials are the functions of a polynomial, with good arguments besides.
func ofPolynomials() map[string]func(p []api.Int) []any {
	return map[string]func(p []api.Int) []any{
		"Value":           func(p []api.Int) []any { return all(brandt.Value(p, api.Frac{Num: 1, Den: 2})) },
		"Divide":          func(p []api.Int) []any { return all(brandt.Divide(p, polyOf(1).ints())) },
		"Divide by":       func(p []api.Int) []any { return all(brandt.Divide(polyOf(0, 1).ints(), p)) },
		"Squarefree":      func(p []api.Int) []any { return all(brandt.Squarefree(p)) },
		"Sturm":           func(p []api.Int) []any { return all(brandt.Sturm(p)) },
		"Between":         func(p []api.Int) []any { return all(brandt.Between(p, api.Frac{Den: 1}, api.Frac{Den: 1})) },
		"Enclose":         func(p []api.Int) []any { return all(brandt.Enclose(p, 1)) },
		"CheckEnclosures": func(p []api.Int) []any { return all(brandt.CheckEnclosures(p, nil)) },
		// These are called with more errors.
		"Value at no fraction":        func(p []api.Int) []any { return all(brandt.Value(p, api.Frac{})) },
		"Between no fractions":        func(p []api.Int) []any { return all(brandt.Between(p, api.Frac{Num: least}, api.Frac{})) },
		"Enclose with no denominator": func(p []api.Int) []any { return all(brandt.Enclose(p, 0)) },
		"CheckEnclosures of too many": func(p []api.Int) []any { return all(brandt.CheckEnclosures(p, make([]api.Enclosure, 62))) },
		"Divide by none": func(p []api.Int) []any {
			return all(brandt.Divide(p, nil))
		},
		"Divide by too many": func(p []api.Int) []any {
			return all(brandt.Divide(p, make([]api.Int, 62)))
		},
	}
}

func TestErrorsOfPolynomials(t *testing.T) {
	for e, list := range badPolynomials() {
		for _, p := range list {
			for name, call := range ofPolynomials() {
				wantError(t, fmt.Sprint(name, " ", p), e, call(p)...)
			}
		}
	}
	x := polyOf(0, 1).ints()
	for _, f := range []struct {
		f api.Frac
		e api.Errno
	}{{api.Frac{}, api.ErrForm}, {api.Frac{Num: 1, Den: -1}, api.ErrForm}, {api.Frac{Num: least, Den: least}, api.ErrForm}, {api.Frac{Num: billion + 1}, api.ErrForm}, {api.Frac{Num: billion + 1, Den: 1}, api.ErrLarge}, {api.Frac{Num: -billion - 1, Den: 1}, api.ErrLarge}, {api.Frac{Den: billion + 1}, api.ErrLarge}, {api.Frac{Num: 2 * billion, Den: 2 * billion}, api.ErrLarge}, {api.Frac{Num: least, Den: 1}, api.ErrLarge}, {api.Frac{Num: greatest, Den: greatest}, api.ErrLarge}} {
		s, e := brandt.Value(x, f.f)
		wantError(t, fmt.Sprint("Value at ", f.f), f.e, s, e)
		for _, other := range []api.Frac{{Den: 1}, {Num: 5, Den: 1}, {Num: -5, Den: 1}} {
			count, e := brandt.Between(x, f.f, other)
			wantError(t, fmt.Sprint("Between ", f.f, other), f.e, count, e)
			count, e = brandt.Between(x, other, f.f)
			wantError(t, fmt.Sprint("Between ", other, f.f), f.e, count, e)
		}
		for _, other := range []api.Frac{{}, {Num: billion + 1, Den: 1}} {
			count, e := brandt.Between(x, f.f, other)
			wantError(t, fmt.Sprint("Between ", f.f, other), f.e, count, e)
		}
	}
}

func TestPolynomialsAreReadByValue(t *testing.T) {
	n := numbers(104)
	for range 100 {
		p, q := n.poly(n.between(0, 5), 9), n.poly(n.between(0, 2), 9)
		p = p.times(q)
		first, second := p.ints(), loose(&n, p)
		for name, call := range ofPolynomials() {
			if a, b := fmt.Sprint(call(first)...), fmt.Sprint(call(second)...); a != b {
				t.Errorf("%s %v: %s, but %s of %v", name, p, a, b, second)
			}
		}
		a, e := brandt.Divide(loose(&n, p), loose(&n, q))
		b, f := brandt.Divide(p.ints(), q.ints())
		wantResult(t, fmt.Sprint("Divide ", p, q), a, e, b, f)
	}
}

// loose is the same polynomial with zeros at the end, also of its numbers, and with negative zeros.
func loose(n *numbers, p poly) []api.Int {
	list := p.ints()
	for range n.between(0, 3) {
		list = append(list, api.Int{})
	}
	for i := range list {
		for range n.between(0, 40) {
			list[i].Words = append(list[i].Words, 0)
		}
		if toBig(list[i]).Sign() == 0 {
			list[i].Neg = n.between(0, 1) == 0
		}
	}
	return list
}
