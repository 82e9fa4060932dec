package algebra_test

import (
	"fmt"
	"math/big"
	"testing"

	"fourfold/algebra"
	"fourfold/api"
)

// The tests of this file are those of P3.6.

const mostFrac = 1000000000

// ratMatrix is a matrix of fractions of any size: two rows of two.
type ratMatrix [4]*big.Rat

func ratsOf(m api.Mat2) ratMatrix {
	return ratMatrix{toRat(m.A), toRat(m.B), toRat(m.C), toRat(m.D)}
}

func (m ratMatrix) times(n ratMatrix) ratMatrix {
	var product ratMatrix
	for row := range 2 {
		for column := range 2 {
			x := new(big.Rat).Mul(m[2*row], n[column])
			product[2*row+column] = x.Add(x, new(big.Rat).Mul(m[2*row+1], n[2+column]))
		}
	}
	return product
}

// isScalar reports whether m is n times the unit matrix.
func (m ratMatrix) isScalar(n int) bool {
	return m[0].Cmp(rat(n, 1)) == 0 && m[3].Cmp(rat(n, 1)) == 0 && m[1].Sign() == 0 && m[2].Sign() == 0
}

// represent reports whether two matrices represent the algebra.
func represent(a api.Algebra, i, j ratMatrix) bool {
	forth, back := i.times(j), j.times(i)
	for n := range forth {
		if new(big.Rat).Add(forth[n], back[n]).Sign() != 0 {
			return false
		}
	}
	return i.times(i).isScalar(a.A) && j.times(j).isScalar(a.B)
}

// mat2 is m as a matrix of valid fractions, if it is one.
func (m ratMatrix) mat2() (api.Mat2, bool) {
	var list [4]api.Frac
	for n, r := range m {
		if r.Num().CmpAbs(big.NewInt(mostFrac)) > 0 || r.Denom().Cmp(big.NewInt(mostFrac)) > 0 {
			return api.Mat2{}, false
		}
		list[n] = api.Frac{Num: int(r.Num().Int64()), Den: int(r.Denom().Int64())}
	}
	return api.Mat2{A: list[0], B: list[1], C: list[2], D: list[3]}, true
}

// wantMatrix checks that the fractions are in lowest terms and valid.
func wantMatrix(t *testing.T, what string, m api.Mat2) {
	t.Helper()
	lowest := ratMatrix{}
	for n, f := range []api.Frac{m.A, m.B, m.C, m.D} {
		if f.Den <= 0 {
			t.Errorf("%s: %v", what, m)
			return
		}
		lowest[n] = toRat(f)
	}
	wanted, valid := lowest.mat2()
	want(t, what+": valid", valid, true)
	want(t, what, m, wanted)
}

// wantSplit checks Divisor, Split and CheckSplit.
func wantSplit(t *testing.T, a api.Algebra) {
	t.Helper()
	what := fmt.Sprint(a)
	q, e := algebra.Divisor(a)
	i, j, f := algebra.Split(a)
	if !splits(t, a) {
		wantError(t, "Divisor "+what, api.ErrSplit, q, e)
		wantError(t, "Split "+what, api.ErrSplit, i, j, f)
		return
	}
	want(t, "Divisor "+what, e, api.OK)
	wantQuat(t, "Divisor "+what, q, algebra.CheckQuat(q), slowOf(q))
	if slowOf(q).norm(a).Sign() != 0 || q.W == 0 && q.X == 0 && q.Y == 0 && q.Z == 0 {
		t.Errorf("Divisor %v: %v", a, q)
	}
	want(t, "Split "+what, f, api.OK)
	wantMatrix(t, "Split i "+what, i)
	wantMatrix(t, "Split j "+what, j)
	want(t, "Split represents "+what, represent(a, ratsOf(i), ratsOf(j)), true)
	want(t, "CheckSplit "+what, algebra.CheckSplit(a, i, j), api.OK)
}

func TestSplit(t *testing.T) {
	for a := -40; a <= 40; a++ {
		for b := -40; b <= 40; b++ {
			if a != 0 && b != 0 {
				wantSplit(t, api.Algebra{A: a, B: b})
			}
		}
	}
	// The greatest numbers, without squares and with many, and common divisors.
	list := []int{1000, 999, 998, 997, 994, 991, 983, 977, 966, 961, 900, 870, 858, 841, 840, 770, 714, 720, 1, 2, 3, 4, 961, 30}
	for _, a := range list {
		for _, b := range list {
			wantSplit(t, api.Algebra{A: a, B: b})
			wantSplit(t, api.Algebra{A: -a, B: b})
			wantSplit(t, api.Algebra{A: a, B: -b})
		}
		wantSplit(t, api.Algebra{A: -a, B: -a})
	}
	// Those whose solutions of A x^2 + B y^2 = z^2 are the greatest.
	for _, a := range []api.Algebra{{A: -961, B: 637}, {A: -961, B: 778}, {A: 416, B: -961}, {A: 997, B: 997}, {A: 985, B: 985}, {A: 986, B: 986}, {A: 977, B: 977}, {A: 962, B: 962}, {A: 967, B: 968}} {
		want(t, fmt.Sprint("this splits: ", a), splits(t, a), true)
		wantSplit(t, a)
	}
	n := numbers(10)
	for range 3000 {
		wantSplit(t, n.algebra())
	}
}

// whole is a matrix of integers.
func whole(a, b, c, d int) api.Mat2 {
	return api.Mat2{A: api.Frac{Num: a, Den: 1}, B: api.Frac{Num: b, Den: 1}, C: api.Frac{Num: c, Den: 1}, D: api.Frac{Num: d, Den: 1}}
}

func TestMatricesThatAreAccepted(t *testing.T) {
	a := api.Algebra{A: -1, B: 2}
	i, j := whole(0, 1, -1, 0), whole(1, 1, 1, -1)
	want(t, "CheckSplit of the example", algebra.CheckSplit(a, i, j), api.OK)
	wide := api.Mat2{A: api.Frac{Num: 0, Den: -mostFrac}, B: api.Frac{Num: -7, Den: -7}, C: api.Frac{Num: mostFrac, Den: -mostFrac}, D: api.Frac{Num: 0, Den: 3}}
	want(t, "CheckSplit of fractions that are not in lowest terms", algebra.CheckSplit(a, wide, j), api.OK)
	want(t, "CheckSplit of great numbers", algebra.CheckSplit(matrices, whole(mostFrac-1, 2-mostFrac, mostFrac, 1-mostFrac), whole(mostFrac-1, 2-mostFrac, mostFrac, 1-mostFrac)), api.ErrProof)
	n := numbers(11)
	accepted := 0
	for range 4000 {
		a := n.algebra()
		i, j, e := algebra.Split(a)
		if e != api.OK {
			continue
		}
		// Conjugates by (1, s / 0, t) represent the algebra as well.
		size := []int{10, 1000, 30000}[n.between(0, 2)]
		s, r := rat(n.between(-size, size), n.between(1, size)), rat(n.between(1, size), n.between(1, size))
		up := ratMatrix{rat(1, 1), s, new(big.Rat), r}
		down := ratMatrix{rat(1, 1), new(big.Rat).Neg(new(big.Rat).Quo(s, r)), new(big.Rat), new(big.Rat).Inv(r)}
		x, valid := up.times(ratsOf(i)).times(down).mat2()
		y, too := up.times(ratsOf(j)).times(down).mat2()
		if !valid || !too {
			continue
		}
		accepted++
		want(t, fmt.Sprint("CheckSplit ", a, x, y), algebra.CheckSplit(a, x, y), api.OK)
		x.B.Num++
		if x.B.Num <= mostFrac {
			w := api.OK
			if !represent(a, ratsOf(x), ratsOf(y)) {
				w = api.ErrProof
			}
			want(t, fmt.Sprint("CheckSplit ", a, x, y), algebra.CheckSplit(a, x, y), w)
		}
	}
	if accepted < 100 {
		t.Errorf("only %d pairs of matrices", accepted)
	}
}

func TestMatricesThatAreRefused(t *testing.T) {
	tiny := api.Frac{Num: 1, Den: mostFrac}
	nearly := api.Mat2{A: api.Frac{Num: 1, Den: 1}, B: tiny, C: tiny, D: api.Frac{Num: -1, Den: 1}}
	power := api.Frac{Num: 1, Den: 1 << 29}
	for _, x := range []struct {
		what string
		a    api.Algebra
		i, j api.Mat2
	}{
		{"no numbers but 0", api.Algebra{A: 1, B: 1}, whole(0, 0, 0, 0), whole(0, 0, 0, 0)},
		{"matrices that commute", api.Algebra{A: 1, B: 1}, whole(1, 0, 0, 1), whole(1, 0, 0, 1)},
		{"equal matrices", api.Algebra{A: -1, B: -1}, whole(0, 1, -1, 0), whole(0, 1, -1, 0)},
		{"a wrong first square", api.Algebra{A: 1, B: 2}, whole(0, 1, -1, 0), whole(1, 1, 1, -1)},
		{"a wrong second square", api.Algebra{A: -1, B: 3}, whole(0, 1, -1, 0), whole(1, 1, 1, -1)},
		{"matrices in the other order", api.Algebra{A: -1, B: 2}, whole(1, 1, 1, -1), whole(0, 1, -1, 0)},
		{"a square whose trace is right", api.Algebra{A: 1, B: 1}, whole(1, 1, 0, 1), whole(0, 1, 1, 0)},
		{"a square with a number above the diagonal", api.Algebra{A: 4, B: 1}, whole(2, 1, 0, 2), whole(0, 1, 1, 0)},
		{"a square with a number below the diagonal", api.Algebra{A: 4, B: 1}, whole(2, 0, 1, 2), whole(0, 1, 1, 0)},
		{"a square with different numbers", api.Algebra{A: 4, B: 1}, whole(2, 0, 0, 1), whole(0, 1, 1, 0)},
		{"a square with different numbers", api.Algebra{A: 4, B: 1}, whole(1, 0, 0, 2), whole(0, 1, 1, 0)},
		{"a second square that is not scalar", api.Algebra{A: 1, B: 4}, whole(1, 0, 0, -1), whole(2, 1, 0, 2)},
		{"products that differ in one number", api.Algebra{A: 1, B: 1}, whole(1, 0, 0, -1), whole(1, 1, 0, -1)},
		{"a square that is wrong by 10^-18", api.Algebra{A: 1, B: -1}, nearly, whole(0, 1, -1, 0)},
		{"great powers of 2 as denominators", api.Algebra{A: 1, B: 1}, api.Mat2{A: power, B: power, C: power, D: power}, api.Mat2{A: power, B: power, C: power, D: power}},
		{"the greatest numbers", api.Algebra{A: 1, B: 1}, whole(mostFrac, mostFrac, mostFrac, mostFrac), whole(-mostFrac, -mostFrac, -mostFrac, -mostFrac)},
		{"an algebra that does not split", hamilton, whole(0, 1, -1, 0), whole(1, 0, 0, -1)},
	} {
		want(t, "CheckSplit with "+x.what, algebra.CheckSplit(x.a, x.i, x.j), api.ErrProof)
	}
}

func TestMatricesWithoutFractions(t *testing.T) {
	a := api.Algebra{A: -1, B: 2}
	i, j := whole(0, 1, -1, 0), whole(1, 1, 1, -1)
	for _, f := range []api.Frac{{}, {Num: 1}, {Num: mostFrac + 1, Den: 1}, {Num: -mostFrac - 1, Den: 1}, {Num: 1, Den: mostFrac + 1}, {Num: 1, Den: -mostFrac - 1}, {Num: 2 * mostFrac, Den: 2 * mostFrac}, {Num: least, Den: least}, {Num: greatest, Den: greatest}} {
		for place := range 8 {
			x, y := i, j
			*[]*api.Frac{&x.A, &x.B, &x.C, &x.D, &y.A, &y.B, &y.C, &y.D}[place] = f
			want(t, fmt.Sprint("CheckSplit ", x, y), algebra.CheckSplit(a, x, y), api.ErrForm)
			want(t, fmt.Sprint("CheckSplit ", x, y), algebra.CheckSplit(hamilton, x, y), api.ErrForm)
			want(t, fmt.Sprint("CheckSplit ", x, y), algebra.CheckSplit(api.Algebra{}, x, y), api.ErrZero)
		}
	}
}
