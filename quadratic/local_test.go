package quadratic_test

import (
	"fmt"
	"math/big"
	"slices"
	"testing"

	"fourfold/api"
	"fourfold/integer"
	"fourfold/quadratic"
)

// The tests of this file are those of P6.5.

// greatestPrime is the greatest prime up to MaxMod.
const greatestPrime = 9973

// ratios are the leading determinants divided by the ones before, and by 2: a diagonalization.
func ratios(f api.Form) []*big.Rat {
	var list []*big.Rat
	before := big.NewInt(1)
	for k := range f.N {
		m := det(corner(f.Gram, k+1))
		list = append(list, new(big.Rat).SetFrac(m, new(big.Int).Add(before, before)))
		before = m
	}
	return list
}

func TestDiagonal(t *testing.T) {
	n := numbers(40)
	for range 300 {
		f := n.any()
		var wanted []api.Frac
		for _, d := range ratios(f) {
			wanted = append(wanted, api.Frac{Num: int(d.Num().Int64()), Den: int(d.Denom().Int64())})
		}
		list, e := quadratic.Diagonal(f)
		wantResult(t, fmt.Sprint("Diagonal ", f), list, e, wanted, api.OK)
		// The squares of the steps of Gauss's elimination, times these numbers, are the form.
		x := make([]int, f.N)
		for i := range x {
			x[i] = n.between(-3, 3)
		}
		want(t, fmt.Sprint("the sum of squares of ", f), sumOfSquares(f, list, x).Cmp(big.NewRat(int64(value(f, x)), 1)), 0)
	}
	list, e := quadratic.Diagonal(diagonal(500, 499, 491, 487))
	wantResult(t, "Diagonal with great numbers", list, e, []api.Frac{{Num: 500, Den: 1}, {Num: 499, Den: 1}, {Num: 491, Den: 1}, {Num: 487, Den: 1}}, api.OK)
	list, e = quadratic.Diagonal(hexagonal())
	wantResult(t, "Diagonal", list, e, []api.Frac{{Num: 1, Den: 1}, {Num: 3, Den: 4}}, api.OK)
	for _, f := range []api.Form{{}, diagonal(501, 1), diagonal(0, 1)} {
		wantError(t, "Diagonal", quadratic.Check(f), all(quadratic.Diagonal(f))...)
	}
}

// sumOfSquares is the sum of d y^2 for the coefficients d, where each y is what is left of the numbers of x when those before are put into squares.
func sumOfSquares(f api.Form, list []api.Frac, x []int) *big.Rat {
	n := f.N
	rest := make([][]*big.Rat, n)
	for i, row := range f.Gram {
		for _, v := range row {
			rest[i] = append(rest[i], big.NewRat(int64(v), 2))
		}
	}
	sum := new(big.Rat)
	for k := range n {
		y := new(big.Rat)
		for j := k; j < n; j++ {
			y.Add(y, new(big.Rat).Mul(new(big.Rat).Quo(rest[k][j], rest[k][k]), big.NewRat(int64(x[j]), 1)))
		}
		sum.Add(sum, new(big.Rat).Mul(big.NewRat(int64(list[k].Num), int64(list[k].Den)), y.Mul(y, y)))
		for i := n - 1; i > k; i-- {
			by := new(big.Rat).Quo(rest[i][k], rest[k][k])
			for j := k; j < n; j++ {
				rest[i][j] = new(big.Rat).Sub(rest[i][j], new(big.Rat).Mul(by, rest[k][j]))
			}
		}
	}
	return sum
}

// split is a fraction as a unit, times a power of p: a whole number, but for squares.
func split(r *big.Rat, p int) (unit *big.Int, exponent int) {
	unit = new(big.Int).Mul(r.Num(), r.Denom())
	for {
		q, rest := new(big.Int).QuoRem(unit, big.NewInt(int64(p)), new(big.Int))
		if rest.Sign() != 0 {
			return unit, exponent
		}
		unit = q
		exponent++
	}
}

// hilbert is the Hilbert symbol at a prime, by Serre's formulas.
func hilbert(a, b *big.Rat, p int) int {
	u, i := split(a, p)
	v, j := split(b, p)
	odd := false
	if p == 2 {
		eighth := func(x *big.Int) int { return int(new(big.Int).Mod(x, big.NewInt(8)).Int64()) }
		s, r := eighth(u), eighth(v)
		odd = (s-1)/2*((r-1)/2)%2 == 1 != (i%2*(r*r-1)/8%2 == 1) != (j%2*(s*s-1)/8%2 == 1)
	} else {
		q := big.NewInt(int64(p))
		odd = i*j%2*(p-1)/2%2 == 1 != (j%2 == 1 && big.Jacobi(u, q) < 0) != (i%2 == 1 && big.Jacobi(v, q) < 0)
	}
	if odd {
		return -1
	}
	return 1
}

// primesOf are the primes up to MaxMod that divide twice the determinant, and some others.
func primesOf(f api.Form) []int {
	list := []int{2, 3, 5, 7, greatestPrime}
	d := det(f.Gram)
	for p := 11; p <= api.MaxMod; p += 2 {
		if new(big.Int).Mod(d, big.NewInt(int64(p))).Sign() == 0 && integer.IsPrime(p) {
			list = append(list, p)
		}
	}
	return list
}

func TestHasse(t *testing.T) {
	n := numbers(41)
	seen := map[int]int{}
	for range 250 {
		f := n.any()
		d := ratios(f)
		for _, p := range primesOf(f) {
			wanted := 1
			for i := range d {
				for k := range i {
					wanted *= hilbert(d[k], d[i], p)
				}
			}
			got, e := quadratic.Hasse(f, p)
			wantResult(t, fmt.Sprint("Hasse ", f, p), got, e, wanted, api.OK)
			seen[wanted]++
		}
		got, e := quadratic.Hasse(f, 0)
		wantResult(t, "Hasse at the real place", got, e, 1, api.OK)
	}
	if seen[1] < 100 || seen[-1] < 100 {
		t.Error("invariants:", seen)
	}
	for _, x := range []struct {
		f    api.Form
		p, h int
	}{{hexagonal(), 3, 1}, {hexagonal(), 2, 1}, {diagonal(1, 1), 2, 1}, {diagonal(3, 3), 2, -1}, {diagonal(3, 3), 3, -1}, {diagonal(3, 3), 5, 1}, {diagonal(2, 5), 5, -1}, {diagonal(2, 5), 2, -1}, {fourSquares(), 2, 1}, {diagonal(3, 7, 1), 7, -1}, {diagonal(1, 3, 7), 7, -1}, {diagonal(1, 1, 1, 1), greatestPrime, 1}} {
		h, e := quadratic.Hasse(x.f, x.p)
		wantResult(t, fmt.Sprint("Hasse ", x.f, x.p), h, e, x.h, api.OK)
	}
}

// vanishes reports whether the form with this matrix, of any sign, is 0 at a primitive vector of the p-adic integers: at one that is looked for digit by digit, until Hensel's lemma has it.
func vanishes(m matrix, p int) bool {
	f := of(m...)
	valuation := func(n int) int {
		if n == 0 {
			return 1000
		}
		k := 0
		for n%p == 0 {
			n /= p
			k++
		}
		return k
	}
	var lift func(x []int, power, digits, place int) bool
	// The numbers of x from place on have one digit less than those before; that of a unit is 1.
	lift = func(x []int, power, digits, place int) bool {
		if place == len(x) {
			if valuation(value(f, x)) < digits || !slices.ContainsFunc(x, func(n int) bool { return n%p != 0 }) {
				return false
			}
			slope := 1000
			for _, g := range times(matrix{x}, m)[0] {
				slope = min(slope, valuation(g))
			}
			return digits > 2*slope || lift(x, power*p, digits+1, 0)
		}
		for d := range p {
			y := slices.Clone(x)
			y[place] += d * power
			// The first number that is a unit is 1: other vectors are multiples.
			first := slices.IndexFunc(y[:place+1], func(n int) bool { return n%p != 0 })
			if first >= 0 && y[first] != 1 {
				continue
			}
			if lift(y, power, digits, place+1) {
				return true
			}
		}
		return false
	}
	return lift(make([]int, len(m)), 1, 1, 0)
}

func TestIsotropic(t *testing.T) {
	n := numbers(42)
	type kind struct {
		size, p int
		is      bool
	}
	seen := map[kind]int{}
	for range 500 {
		size := n.between(2, 4)
		f := n.form(size, one(&n, 3, 8, 20), one(&n, 0, 2, 6))
		if n.between(0, 2) == 0 {
			f = scaledDiagonal(&n, size)
		}
		for _, p := range []int{2, 3, 5, 7} {
			if new(big.Int).Mod(det(f.Gram), big.NewInt(int64(p*p*p*p*p))).Sign() == 0 || p > 13-2*size {
				continue // too many digits to go through
			}
			wanted := vanishes(f.Gram, p)
			got, e := quadratic.Isotropic(f, p)
			wantResult(t, fmt.Sprint("Isotropic ", f, p), got, e, wanted, api.OK)
			seen[kind{size, p, wanted}]++
		}
		got, e := quadratic.Isotropic(f, 0)
		wantResult(t, "Isotropic at the real place", got, e, false, api.OK)
	}
	for _, k := range []kind{{2, 2, true}, {2, 2, false}, {2, 3, true}, {2, 3, false}, {2, 7, true}, {2, 7, false}, {3, 2, true}, {3, 2, false}, {3, 3, true}, {3, 3, false}, {3, 5, false}, {4, 2, true}, {4, 2, false}, {4, 3, true}, {4, 3, false}, {4, 5, true}, {4, 5, false}} {
		if seen[k] < 2 {
			t.Error("too few forms of this kind:", k, seen[k])
		}
	}
}

// scaledDiagonal is a diagonal form with coefficients that many squares divide, hidden.
func scaledDiagonal(n *numbers, size int) api.Form {
	if size == 4 && n.between(0, 1) == 0 { // norm forms: they are anisotropic at one prime or more
		f, _ := n.hidden(one(n, fourSquares(), diagonal(1, 2, 5, 10), diagonal(1, 3, 1, 3), diagonal(1, 1, 7, 7), beside(hexagonal(), diagonal(5, 15))), 3)
		return f
	}
	var list []int
	for range size {
		list = append(list, one(n, 1, 2, 3, 5, 6, 7, 10, 15))
	}
	f, _ := n.hidden(diagonal(list...), 3)
	return f
}

func TestExamplesOfIsotropy(t *testing.T) {
	for _, x := range []struct {
		f  api.Form
		p  int
		is bool
	}{
		{hexagonal(), 7, true}, {hexagonal(), 2, false}, {hexagonal(), 3, false}, {hexagonal(), 5, false}, {hexagonal(), 13, true}, {hexagonal(), greatestPrime, true}, {diagonal(1, 1), 2, false}, {diagonal(1, 1), 5, true}, {diagonal(1, 7), 2, true}, {diagonal(1, 7), 7, false}, {diagonal(1, 15), 2, true}, {diagonal(1, 4), greatestPrime, true}, {diagonal(1, 3), 9967, true}, {diagonal(1, 3), 9929, false},
		{diagonal(1, 1, 1), 2, false}, {diagonal(1, 1, 1), 3, true}, {diagonal(1, 1, 7), 2, true}, {diagonal(1, 1, 7), 7, false}, {diagonal(1, 1, 1), greatestPrime, true}, {fourSquares(), 2, false}, {fourSquares(), 3, true}, {diagonal(1, 1, 1, 2), 2, true}, {diagonal(1, 1, 11, 11), 11, false}, {diagonal(1, 1, 11, 11), 2, true}, {rootsD4(), 2, false}, {rootsA4(), 5, true}, {fourSquares(), greatestPrime, true},
	} {
		is, e := quadratic.Isotropic(x.f, x.p)
		wantResult(t, fmt.Sprint("Isotropic ", x.f, x.p), is, e, x.is, api.OK)
	}
}

// Forms with great numbers, at great primes that divide the determinant: by the invariants.
func TestIsotropyOfGreatForms(t *testing.T) {
	n := numbers(43)
	seen := map[bool]int{}
	for range 150 {
		f := n.form(n.between(2, 4), 500, 300)
		d := ratios(f)
		product := big.NewRat(1, 1)
		for _, x := range d {
			product.Mul(product, x)
		}
		minus := big.NewRat(-1, 1)
		for _, p := range primesOf(f) {
			c := 1
			for i := range d {
				for k := range i {
					c *= hilbert(d[k], d[i], p)
				}
			}
			var wanted bool
			switch f.N {
			case 2:
				wanted = isSquare(new(big.Rat).Neg(product), p)
			case 3:
				wanted = c == hilbert(minus, new(big.Rat).Neg(product), p)
			case 4:
				wanted = !isSquare(product, p) || c == hilbert(minus, minus, p)
			}
			is, e := quadratic.Isotropic(f, p)
			wantResult(t, fmt.Sprint("Isotropic ", f, p), is, e, wanted, api.OK)
			if p > 100 && f.N < 4 {
				seen[wanted]++
			}
		}
	}
	if seen[true] < 10 || seen[false] < 10 {
		t.Error("isotropic at great primes, and not:", seen)
	}
}

// isSquare reports whether a fraction is a square in the p-adic numbers: whether its symbols with all numbers are 1.
func isSquare(r *big.Rat, p int) bool {
	for _, n := range []int{-1, 2, 3, 5, p} {
		if hilbert(r, big.NewRat(int64(n), 1), p) < 0 {
			return false
		}
	}
	for n := 2; n < p; n++ { // units: one that is no square is enough
		if big.Jacobi(big.NewInt(int64(n)), big.NewInt(int64(p|1))) < 0 {
			return hilbert(r, big.NewRat(int64(n), 1), p) > 0
		}
	}
	return true
}

// pieces are those of a decomposition that is made step by step, with fractions of any size.
func pieces(f api.Form, p int) []api.Piece {
	rest := make([][]*big.Rat, f.N)
	for i, row := range f.Gram {
		for _, v := range row {
			rest[i] = append(rest[i], big.NewRat(int64(v), 2))
		}
	}
	valuation := func(r *big.Rat) int {
		if r.Sign() == 0 {
			return 1000
		}
		_, num := split(new(big.Rat).SetInt(r.Num()), p)
		_, den := split(new(big.Rat).SetInt(r.Denom()), p)
		return num - den
	}
	add := func(to, from int, by *big.Rat) {
		for j := range rest {
			rest[to][j] = new(big.Rat).Add(rest[to][j], new(big.Rat).Mul(by, rest[from][j]))
		}
		for i := range rest {
			rest[i][to] = new(big.Rat).Add(rest[i][to], new(big.Rat).Mul(by, rest[i][from]))
		}
	}
	var list []api.Piece
	done := make([]bool, f.N)
	for range f.N {
		row, column := -1, -1
		for i := range rest {
			for j := range i + 1 {
				if !done[i] && !done[j] && (row < 0 || valuation(rest[i][j]) < valuation(rest[row][column]) || row != column && i == j && valuation(rest[i][j]) == valuation(rest[row][column])) {
					row, column = i, j
				}
			}
		}
		if row != column {
			add(row, column, big.NewRat(1, 1))
		}
		pivot := rest[row][row]
		for i := range rest {
			if i != row && !done[i] {
				add(i, row, new(big.Rat).Neg(new(big.Rat).Quo(rest[i][row], pivot)))
			}
		}
		done[row] = true
		scale := valuation(pivot)
		unit, _ := split(pivot, p)
		sign := big.Jacobi(unit, big.NewInt(int64(p)))
		if last := len(list) - 1; last >= 0 && list[last].Scale == scale {
			list[last].Dim++
			list[last].Sign *= sign
		} else {
			list = append(list, api.Piece{Scale: scale, Dim: 1, Sign: sign})
		}
	}
	return list
}

func TestSymbol(t *testing.T) {
	n := numbers(44)
	sizes := map[int]int{}
	for range 500 {
		f := n.any()
		if n.between(0, 2) > 0 {
			f = powers(&n, n.between(2, 4), one(&n, 3, 5, 7, 11))
		}
		for _, p := range primesOf(f)[1:] {
			wanted := pieces(f, p)
			got, e := quadratic.Symbol(f, p)
			wantResult(t, fmt.Sprint("Symbol ", f, p), got, e, wanted, api.OK)
			sizes[len(wanted)]++
		}
	}
	if sizes[1] < 200 || sizes[2] < 200 || sizes[3] < 40 || sizes[4] < 5 {
		t.Error("numbers of pieces:", sizes)
	}
}

// powers is a form with powers of p in it, hidden.
func powers(n *numbers, size, p int) api.Form {
	var list []int
	for range size {
		c := n.between(1, 3)
		for range n.between(0, 4) {
			if c*p <= 400 {
				c *= p
			}
		}
		list = append(list, c)
	}
	f := diagonal(list...)
	if n.between(0, 2) == 0 { // a pair whose products are less often divisible than its squares
		a, b := n.between(1, 3)*2*p, n.between(1, 3)*2*p
		pair := of([]int{a, 1}, []int{1, b})
		f = beside(pair, diagonal(list[:size/2]...))
		if size == 4 && n.between(0, 1) == 0 {
			f = beside(pair, pair)
		}
		if f.N > 4 || f.N < 2 {
			return pair
		}
	}
	f, _ = n.hidden(f, 10)
	return f
}

func TestExamplesOfSymbols(t *testing.T) {
	for _, x := range []struct {
		f      api.Form
		p      int
		pieces []api.Piece
	}{
		{hexagonal(), 3, []api.Piece{{Scale: 0, Dim: 1, Sign: 1}, {Scale: 1, Dim: 1, Sign: 1}}}, {hexagonal(), 5, []api.Piece{{Scale: 0, Dim: 2, Sign: -1}}}, {fourSquares(), 3, []api.Piece{{Scale: 0, Dim: 4, Sign: 1}}}, {diagonal(3, 1), 3, []api.Piece{{Scale: 0, Dim: 1, Sign: 1}, {Scale: 1, Dim: 1, Sign: 1}}},
		{diagonal(1, 3, 9, 27), 3, []api.Piece{{Scale: 0, Dim: 1, Sign: 1}, {Scale: 1, Dim: 1, Sign: 1}, {Scale: 2, Dim: 1, Sign: 1}, {Scale: 3, Dim: 1, Sign: 1}}}, {diagonal(2, 6, 18, 54), 3, []api.Piece{{Scale: 0, Dim: 1, Sign: -1}, {Scale: 1, Dim: 1, Sign: -1}, {Scale: 2, Dim: 1, Sign: -1}, {Scale: 3, Dim: 1, Sign: -1}}},
		{diagonal(9, 18), 3, []api.Piece{{Scale: 2, Dim: 2, Sign: -1}}}, {diagonal(25, 2, 25, 3), 5, []api.Piece{{Scale: 0, Dim: 2, Sign: 1}, {Scale: 2, Dim: 2, Sign: 1}}}, {diagonal(7, 21, 1), 7, []api.Piece{{Scale: 0, Dim: 1, Sign: 1}, {Scale: 1, Dim: 2, Sign: -1}}}, {of([]int{6, 1}, []int{1, 6}), 3, []api.Piece{{Scale: 0, Dim: 2, Sign: -1}}}, {diagonal(1, 1), greatestPrime, []api.Piece{{Scale: 0, Dim: 2, Sign: 1}}},
		{diagonal(243, 486), 3, []api.Piece{{Scale: 5, Dim: 2, Sign: -1}}},
	} {
		list, e := quadratic.Symbol(x.f, x.p)
		wantResult(t, fmt.Sprint("Symbol ", x.f, x.p), list, e, x.pieces, api.OK)
	}
}

func TestErrorsOfLocalInvariants(t *testing.T) {
	for _, x := range []struct {
		f api.Form
		p int
		e api.Errno
	}{
		{hexagonal(), 1, api.ErrPrime}, {hexagonal(), 4, api.ErrPrime}, {hexagonal(), 9, api.ErrPrime}, {hexagonal(), -1, api.ErrPrime}, {hexagonal(), -2, api.ErrPrime}, {hexagonal(), -3, api.ErrPrime}, {fourSquares(), 10000, api.ErrPrime}, {fourSquares(), 10007, api.ErrPrime}, {rootsA3(), 999999937, api.ErrPrime}, {rootsA3(), 1000000007, api.ErrPrime}, {rootsA3(), least, api.ErrPrime}, {rootsA3(), greatest, api.ErrPrime}, {rootsA3(), 9999, api.ErrPrime},
		{api.Form{}, 4, api.ErrShape}, {diagonal(501, 1), 4, api.ErrLarge}, {diagonal(0, 1), 4, api.ErrForm},
	} {
		what := fmt.Sprint(x.f, x.p)
		wantError(t, "Hasse "+what, x.e, all(quadratic.Hasse(x.f, x.p))...)
		wantError(t, "Isotropic "+what, x.e, all(quadratic.Isotropic(x.f, x.p))...)
		wantError(t, "Symbol "+what, x.e, all(quadratic.Symbol(x.f, x.p))...)
	}
	for _, p := range []int{0, 2} {
		wantError(t, fmt.Sprint("Symbol at ", p), api.ErrPrime, all(quadratic.Symbol(hexagonal(), p))...)
	}
}
