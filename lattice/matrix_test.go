package lattice_test

import (
	"fmt"
	"math/big"
	"slices"
	"testing"

	"fourfold/api"
	"fourfold/lattice"
)

// The tests of this file are those of P2.1.

// badMatrices are matrices with their errors.
var badMatrices = []struct {
	m matrix
	e api.Errno
}{
	{matrix{{1, 2}, {3}}, api.ErrShape}, {matrix{{}, {3}}, api.ErrShape}, {matrix{nil, {limit + 1}}, api.ErrShape},
	{append(filled(65, 1, 0), nil), api.ErrShape}, {matrix{{limit + 1}, {1, 2}}, api.ErrShape},
	{filled(65, 1, 0), api.ErrLarge}, {filled(1, 65, 0), api.ErrLarge}, {filled(65, 65, limit+1), api.ErrLarge}, {filled(65, 0, 0), api.ErrLarge},
	{matrix{{limit + 1}}, api.ErrRange}, {matrix{{0, 0}, {0, -limit - 1}}, api.ErrRange}, {matrix{{least}}, api.ErrRange}, {matrix{{greatest}}, api.ErrRange}, {filled(64, 64, greatest), api.ErrRange},
}

func TestCheckMatrix(t *testing.T) {
	for _, m := range []matrix{nil, {}, {nil}, {{}, {}}, {{1}}, {{limit, -limit}}, filled(64, 64, limit), filled(64, 0, 0), filled(64, 1, 3), filled(1, 64, -limit)} {
		want(t, fmt.Sprint("CheckMatrix of ", m), lattice.CheckMatrix(m), api.OK)
	}
	for _, x := range badMatrices {
		want(t, fmt.Sprint("CheckMatrix of ", x.m), lattice.CheckMatrix(x.m), x.e)
	}
}

func TestErrorsOfMatrices(t *testing.T) {
	for _, x := range badMatrices {
		what := fmt.Sprint("of ", x.m)
		wantError(t, "Determinant "+what, x.e, all(lattice.Determinant(x.m))...)
		wantError(t, "Rank "+what, x.e, all(lattice.Rank(x.m))...)
		wantError(t, "Hermite "+what, x.e, all(lattice.Hermite(x.m))...)
		wantError(t, "Smith "+what, x.e, all(lattice.Smith(x.m))...)
		wantError(t, "Kernel "+what, x.e, all(lattice.Kernel(x.m))...)
	}
}

func TestDeterminant(t *testing.T) {
	for _, x := range []struct {
		m    matrix
		want int64
	}{
		{nil, 1}, {matrix{{7}}, 7}, {matrix{{0}}, 0}, {matrix{{1, 2}, {3, 4}}, -2}, {matrix{{0, 1}, {1, 0}}, -1}, {matrix{{0, 0, 1}, {0, 1, 0}, {1, 0, 0}}, -1},
		{matrix{{0, 1, 0}, {0, 0, 1}, {1, 0, 0}}, 1}, {matrix{{1, 2}, {2, 4}}, 0}, {matrix{{0, 3}, {0, 5}}, 0}, {filled(64, 64, limit), 0}, {diagonal(-2, 3, 5), -30},
	} {
		d, e := lattice.Determinant(x.m)
		wantResult(t, fmt.Sprint("Determinant of ", x.m), toBig(d), e, big.NewInt(x.want), api.OK)
	}
	n := numbers(1)
	for k := range 400 {
		size := n.between(1, 7)
		m := n.matrix(size, size, []int{1, 9, limit}[k%3])
		d, e := lattice.Determinant(m)
		_, wanted := rational(bigOf(m))
		wantResult(t, fmt.Sprint("Determinant of ", m), toBig(d), e, wanted, api.OK)
	}
	for _, m := range []matrix{{nil}, {{}, {}}, {{1, 2}}, {{1}, {2}}, filled(64, 63, 1)} {
		wantError(t, fmt.Sprint("Determinant of ", m), api.ErrShape, all(lattice.Determinant(m))...)
	}
}

func TestRank(t *testing.T) {
	n := numbers(2)
	for k := range 400 {
		rows, columns, inner := n.between(1, 8), n.between(1, 8), n.between(1, 8)
		m := times(n.matrix(rows, inner, 3), n.matrix(inner, columns, []int{1, 9, limit / 100}[k%3]))
		r, e := lattice.Rank(m)
		wanted, _ := rational(bigOf(m))
		wantResult(t, fmt.Sprint("Rank of ", m), r, e, wanted, api.OK)
	}
	for _, x := range []struct {
		m    matrix
		want int
	}{{nil, 0}, {filled(3, 0, 0), 0}, {filled(64, 64, 0), 0}, {filled(64, 64, -limit), 1}, {unit(64), 64}, {matrix{{0, 0, 2}, {0, 3, 0}}, 2}} {
		r, e := lattice.Rank(x.m)
		wantResult(t, fmt.Sprint("Rank of ", x.m), r, e, x.want, api.OK)
	}
}

// The largest matrices are compared modulo primes.
func TestLargeMatrices(t *testing.T) {
	n := numbers(3)
	for _, m := range []matrix{n.matrix(64, 64, limit), n.matrix(64, 64, 1), slices.Concat(n.matrix(60, 64, 2), filled(4, 64, 1))} {
		d, e := lattice.Determinant(m)
		want(t, "Determinant of a large matrix", e, api.OK)
		rank := 0
		for _, p := range []int64{1000003, 998244353, 999999937} {
			r, det := residues(bigOf(m), p)
			rank = max(r, rank)
			want(t, "its residue", new(big.Int).Mod(toBig(d), big.NewInt(p)).Int64(), det)
		}
		r, e := lattice.Rank(m)
		wantResult(t, "Rank of a large matrix", r, e, rank, api.OK)
	}
}
