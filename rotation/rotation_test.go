package rotation_test

import (
	"fmt"
	"math/big"
	"testing"

	"fourfold/api"
	"fourfold/rotation"
)

// The tests of this file are those of P7.6.

// turned is the image of a vector under the rotation of x, by the definition.
func turned(x api.Quat, v [3]*big.Rat) [3]*big.Rat {
	image := of(x).times(exact{new(big.Rat), v[0], v[1], v[2]}).times(of(x).inverse())
	return [3]*big.Rat{image[1], image[2], image[3]}
}

// matrix is the rotation of x in lowest terms, by the definition.
func matrix(x api.Quat) api.Rotation {
	den := big.NewInt(1)
	var columns [3][3]*big.Rat
	for j := range columns {
		v := [3]*big.Rat{new(big.Rat), new(big.Rat), new(big.Rat)}
		v[j].SetInt64(1)
		columns[j] = turned(x, v)
		for _, a := range columns[j] {
			g := new(big.Int).GCD(nil, nil, den, a.Denom())
			den.Mul(den, new(big.Int).Div(a.Denom(), g))
		}
	}
	r := api.Rotation{Den: int(den.Int64())}
	for j, column := range columns {
		for i, a := range column {
			r.M[i][j] = int(new(big.Rat).Mul(a, new(big.Rat).SetInt(den)).Num().Int64())
		}
	}
	return r
}

// scaled is the same rotation with a greater denominator.
func scaled(r api.Rotation, by int) api.Rotation {
	for i := range r.M {
		for j := range r.M[i] {
			r.M[i][j] *= by
		}
	}
	r.Den *= by
	return r
}

func none() api.Rotation {
	return api.Rotation{M: [3][3]int{{1, 0, 0}, {0, 1, 0}, {0, 0, 1}}, Den: 1}
}

func TestMatrix(t *testing.T) {
	for _, x := range []struct {
		q    api.Quat
		want api.Rotation
	}{
		{whole(1, 1, 0, 0), api.Rotation{M: [3][3]int{{1, 0, 0}, {0, 0, -1}, {0, 1, 0}}, Den: 1}},
		{whole(2, 1, 0, 0), api.Rotation{M: [3][3]int{{5, 0, 0}, {0, 3, -4}, {0, 4, 3}}, Den: 5}},
		{half(1, 1, 1, 1), api.Rotation{M: [3][3]int{{0, 0, 1}, {1, 0, 0}, {0, 1, 0}}, Den: 1}},
		{whole(0, 0, 0, 5), api.Rotation{M: [3][3]int{{-1, 0, 0}, {0, -1, 0}, {0, 0, 1}}, Den: 1}},
		{over(7, -coord, 0, 0, 0), none()},
		{over(coord, 0, coord, coord, 0), api.Rotation{M: [3][3]int{{0, 1, 0}, {1, 0, 0}, {0, 0, -1}}, Den: 1}},
	} {
		got, e := rotation.Matrix(x.q)
		wantResult(t, fmt.Sprint("Matrix of ", x.q), got, e, x.want, api.OK)
	}
	n := numbers(40)
	large := 0
	for range 1500 {
		x := n.some(one(&n, 1, 3, 10, 100, 400, 1500))
		got, e := rotation.Matrix(x)
		if wanted := matrix(x); wanted.Den > coord {
			large++
			wantError(t, fmt.Sprint("Matrix of ", x), api.ErrLarge, got, e)
		} else {
			wantResult(t, fmt.Sprint("Matrix of ", x), got, e, wanted, api.OK)
			want(t, "CheckRotation", rotation.CheckRotation(got), api.OK)
		}
	}
	if large < 50 {
		t.Errorf("only %d large matrices", large)
	}
}

func TestLimitsOfMatrices(t *testing.T) {
	// The denominators in lowest terms are odd: 999999 is the greatest one. Norms are up to four times as great.
	for _, x := range []struct {
		size, den int
	}{{999999, 999999}, {1000001, 1000001}, {2 * 999999, 999999}, {2 * 1000001, 1000001}} {
		q := sumOfSquares(x.size)
		want(t, "the norm", squares(q), x.size)
		got, e := rotation.Matrix(q)
		if wanted := matrix(q); wanted.Den != x.den {
			t.Errorf("%v has the denominator %d", q, wanted.Den)
		} else if x.den > coord {
			wantError(t, fmt.Sprint("Matrix of ", q), api.ErrLarge, got, e)
		} else {
			wantResult(t, fmt.Sprint("Matrix of ", q), got, e, wanted, api.OK)
		}
	}
	for _, x := range []struct {
		q api.Quat
		e api.Errno
	}{{whole(1999, 1, 1, 1), api.OK}, {whole(1999, 1, 1, 63), api.OK}, {whole(1999, 1, 3, 63), api.OK}, {whole(1999, 1, 1, 65), api.ErrLarge}, {whole(1999, 3, 3, 63), api.OK}, {whole(1999, 5, 5, 63), api.ErrLarge}} {
		_, e := rotation.Matrix(x.q)
		if wanted := matrix(x.q); (wanted.Den > coord) != (x.e == api.ErrLarge) {
			t.Errorf("%v has the denominator %d", x.q, wanted.Den)
		}
		want(t, fmt.Sprint("Matrix of ", x.q), e, x.e)
	}
	wantError(t, "Matrix of a large element", api.ErrLarge, all(rotation.Matrix(whole(coord, coord, coord, coord-1)))...)
	got, e := rotation.Matrix(whole(-coord, 0, 0, coord))
	wantResult(t, "Matrix of large multiples", got, e, api.Rotation{M: [3][3]int{{0, 1, 0}, {-1, 0, 0}, {0, 0, 1}}, Den: 1}, api.OK)
}

func TestErrorsOfQuaternionsOfRotations(t *testing.T) {
	gens := []api.Quat{whole(1, 1, 0, 0)}
	check := func(q api.Quat, e api.Errno) {
		t.Helper()
		what := fmt.Sprint(" of ", q)
		wantError(t, "Matrix"+what, e, all(rotation.Matrix(q))...)
		wantError(t, "Rodrigues"+what, e, all(rotation.Rodrigues(q))...)
		wantError(t, "Cosine"+what, e, all(rotation.Cosine(q))...)
		wantError(t, "Coincidence"+what, e, all(rotation.Coincidence(3, q))...)
		wantError(t, "Word"+what, e, all(rotation.Word(q, nil, -1))...)
		wantError(t, "Word"+what, e, all(rotation.Word(q, gens, 8))...)
		for _, list := range [][]api.Quat{{q}, {gens[0], q}, {gens[0], gens[0], gens[0], gens[0], gens[0], q}, {q, whole(1001, 1, 0, 0)}} {
			wantError(t, "Word, generators,"+what, e, all(rotation.Word(gens[0], list, -1))...)
			wantError(t, "Evaluate"+what, e, all(rotation.Evaluate(make([]int, 61), list))...)
			wantError(t, "Group"+what, e, all(rotation.Group(list, 0))...)
		}
	}
	for _, q := range badQuats() {
		check(q, api.ErrForm)
	}
	for _, q := range []api.Quat{whole(0, 0, 0, 0), over(7, 0, 0, 0, 0), over(coord, 0, 0, 0, 0)} {
		check(q, api.ErrZero)
	}
}

func TestQuaternion(t *testing.T) {
	for _, q := range []api.Quat{whole(1, 0, 0, 0), whole(0, 1, 0, 0), whole(0, 0, 1, 0), whole(0, 0, 0, 1), whole(0, 1, -1, 0), whole(0, 0, 1, 1), whole(0, 1, 0, -1), whole(1, 1, 0, 0), whole(1, 0, -1, 0), whole(1, 1, 1, -1), whole(0, 3, -4, 12), whole(0, 0, 2, -7), whole(1, -500, 3, 2), whole(999, 1, 1, 1)} {
		got, e := rotation.Quaternion(matrix(q))
		wantResult(t, fmt.Sprint("Quaternion of ", matrix(q)), got, e, q, api.OK)
	}
	n := numbers(41)
	for range 1000 {
		x := n.some(one(&n, 1, 2, 10, 60))
		r := matrix(x)
		r = scaled(r, n.between(1, one(&n, 1, 9, coord/r.Den)))
		got, e := rotation.Quaternion(r)
		wantResult(t, fmt.Sprint("Quaternion of ", r), got, e, reduced(x), api.OK)
	}
}

func TestCheckRotation(t *testing.T) {
	for _, r := range []api.Rotation{none(), scaled(none(), coord), scaled(matrix(whole(2, 1, 0, 0)), coord/5), matrix(half(1, -1, 1, 1)), matrix(sumOfSquares(999999))} {
		want(t, fmt.Sprint("CheckRotation of ", r), rotation.CheckRotation(r), api.OK)
	}
	check := func(r api.Rotation, e api.Errno) {
		t.Helper()
		want(t, fmt.Sprint("CheckRotation of ", r), rotation.CheckRotation(r), e)
		wantError(t, fmt.Sprint("Quaternion of ", r), e, all(rotation.Quaternion(r))...)
		wantError(t, fmt.Sprint("Compose of ", r), e, all(rotation.Compose(r, none()))...)
		wantError(t, fmt.Sprint("Compose, second, of ", r), e, all(rotation.Compose(none(), r))...)
	}
	check(api.Rotation{}, api.ErrRange)
	for _, den := range []int{0, -1, coord + 1, least, greatest} {
		r := none()
		r.Den = den
		check(r, api.ErrRange)
	}
	check(scaled(none(), -1), api.ErrRange)
	check(scaled(none(), coord+1), api.ErrRange)
	for i := range 3 {
		for j := range 3 {
			for _, x := range []int{6, -6, least, greatest, least + 1} {
				r := matrix(whole(2, 1, 0, 0))
				r.M[i][j] = x
				check(r, api.ErrRange)
			}
			for _, x := range []int{5, -5, 1, 2, 3, 4, -3, -4} {
				if r := matrix(whole(2, 1, 0, 0)); r.M[i][j] != x {
					r.M[i][j] = x
					check(r, api.ErrForm)
				}
			}
		}
	}
	check(api.Rotation{Den: 1}, api.ErrForm)
	check(api.Rotation{Den: coord}, api.ErrForm)
	check(api.Rotation{M: [3][3]int{{1, 0, 0}, {0, 1, 0}, {0, 0, -1}}, Den: 1}, api.ErrForm)
	check(api.Rotation{M: [3][3]int{{0, 1, 0}, {1, 0, 0}, {0, 0, 1}}, Den: 1}, api.ErrForm)
	check(api.Rotation{M: [3][3]int{{-1, 0, 0}, {0, -1, 0}, {0, 0, -1}}, Den: 1}, api.ErrForm)
	check(api.Rotation{M: [3][3]int{{1, 0, 0}, {1, 0, 0}, {0, 0, 1}}, Den: 1}, api.ErrForm)
	check(api.Rotation{M: [3][3]int{{1, 0, 0}, {0, 1, 0}, {0, 0, 1}}, Den: 2}, api.ErrForm)
	check(api.Rotation{M: [3][3]int{{coord, coord, coord}, {coord, coord, coord}, {coord, coord, coord}}, Den: coord}, api.ErrForm)
	check(api.Rotation{M: [3][3]int{{coord, coord, coord}, {coord, coord, -coord}, {-coord, coord, coord}}, Den: coord}, api.ErrForm)
	wantError(t, "Compose of two bad rotations", api.ErrForm, all(rotation.Compose(api.Rotation{Den: 1}, api.Rotation{}))...)
	wantError(t, "Compose of two bad rotations", api.ErrRange, all(rotation.Compose(api.Rotation{}, api.Rotation{Den: 1}))...)
}

// isRotation reports whether M/Den is one: M times its transpose is the square of Den, the determinant its third power.
func isRotation(r api.Rotation) bool {
	number := func(n int) *big.Int { return big.NewInt(int64(n)) }
	square := new(big.Int).Mul(number(r.Den), number(r.Den))
	for i, a := range r.M {
		for j, b := range r.M {
			sum := new(big.Int)
			for k := range a {
				sum.Add(sum, new(big.Int).Mul(number(a[k]), number(b[k])))
			}
			if i == j && sum.Cmp(square) != 0 || i != j && sum.Sign() != 0 {
				return false
			}
		}
	}
	det := new(big.Int)
	for k := range 3 {
		for sign := -1; sign <= 1; sign += 2 {
			term := number(sign)
			for i, row := range r.M {
				term.Mul(term, number(row[(k+sign*i+3)%3]))
			}
			det.Add(det, term)
		}
	}
	return det.Cmp(square.Mul(square, number(r.Den))) == 0
}

func TestCheckRotationByItsDefinition(t *testing.T) {
	// All matrices with entries from -1 to 1: 24 of them are rotations.
	count := 0
	for code := range 19683 {
		r := api.Rotation{Den: 1}
		for i := range 9 {
			r.M[i/3][i%3] = code%3 - 1
			code /= 3
		}
		e := rotation.CheckRotation(r)
		if e == api.OK {
			count++
		}
		want(t, fmt.Sprint(r), e == api.OK, isRotation(r))
	}
	want(t, "how many rotations have the denominator 1", count, 24)
	// Rows that are changed in their order or in their signs.
	n := numbers(42)
	for range 1000 {
		r := scaled(matrix(n.some(6)), n.between(1, 3))
		i, j := n.between(0, 2), n.between(0, 2)
		r.M[i], r.M[j] = r.M[j], r.M[i]
		for k := range 3 {
			r.M[i][k] *= one(&n, 1, 1, 1, -1)
		}
		wanted := api.OK
		if !isRotation(r) {
			wanted = api.ErrForm
		}
		want(t, fmt.Sprint("CheckRotation of ", r), rotation.CheckRotation(r), wanted)
	}
}

func TestCompose(t *testing.T) {
	quarter, fifth := matrix(whole(1, 1, 0, 0)), matrix(whole(2, 0, 1, 0))
	got, e := rotation.Compose(quarter, fifth)
	wantResult(t, "Compose", got, e, matrix(product(whole(1, 1, 0, 0), whole(2, 0, 1, 0))), api.OK)
	got, e = rotation.Compose(scaled(none(), coord), scaled(none(), coord))
	wantResult(t, "Compose of large rotations", got, e, none(), api.OK)
	n := numbers(43)
	large := 0
	for range 1500 {
		size := one(&n, 1, 3, 10, 30)
		x, y := n.some(size), n.some(size)
		r, s := matrix(x), matrix(y)
		r, s = scaled(r, n.between(1, coord/r.Den)), scaled(s, n.between(1, coord/s.Den))
		got, e := rotation.Compose(r, s)
		wanted := matrix(product(reduced(x), reduced(y)))
		if wanted.Den > coord {
			large++
			wantError(t, fmt.Sprint("Compose of ", r, " and ", s), api.ErrLarge, got, e)
		} else {
			wantResult(t, fmt.Sprint("Compose of ", r, " and ", s), got, e, wanted, api.OK)
		}
	}
	if large < 10 {
		t.Errorf("only %d large products", large)
	}
	// 1001 times 999 is 999999, 1001 squared is 1002001.
	a, b := sumOfSquares(1001), sumOfSquares(999)
	got, e = rotation.Compose(matrix(a), matrix(b))
	wanted := matrix(product(a, b))
	want(t, "the denominator", wanted.Den, 999999)
	wantResult(t, "Compose at the limit", got, e, wanted, api.OK)
	want(t, "the denominator", matrix(product(a, a)).Den, 1002001)
	wantError(t, "Compose beyond the limit", api.ErrLarge, all(rotation.Compose(matrix(a), matrix(a)))...)
}
