package brandt_test

import (
	"fmt"
	"math/big"
	"testing"

	"fourfold/api"
	"fourfold/brandt"
	"fourfold/lattice"
)

// The tests of this file are those of P8.5.

// rank is the rank of a matrix, by elimination with fractions.
func rank(m [][]int) int {
	var rows []poly
	for _, row := range m {
		var r poly
		for _, n := range row {
			r = append(r, rat(n, 1))
		}
		rows = append(rows, r)
	}
	count := 0
	for column := range m[0] {
		pivot := -1
		for i := count; i < len(rows); i++ {
			if rows[i][column].Sign() != 0 {
				pivot = i
			}
		}
		if pivot < 0 {
			continue
		}
		rows[count], rows[pivot] = rows[pivot], rows[count]
		for _, r := range rows[count+1:] {
			by := new(big.Rat).Quo(r[column], rows[count][column])
			for j := range r {
				r[j] = new(big.Rat).Sub(r[j], new(big.Rat).Mul(by, rows[count][j]))
			}
		}
		count++
	}
	return count
}

// isHermite reports whether rows, none of them 0, are a Hermite form.
func isHermite(rows [][]int) bool {
	last := -1
	for i, row := range rows {
		pivot := 0
		for pivot < len(row) && row[pivot] == 0 {
			pivot++
		}
		if pivot == len(row) || pivot <= last || row[pivot] < 0 {
			return false
		}
		for _, above := range rows[:i] {
			if above[pivot] < 0 || above[pivot] >= row[pivot] {
				return false
			}
		}
		last = pivot
	}
	return true
}

// wantKernel checks that rows are the Hermite form of a basis of all vectors: they are such vectors, as many as there are independent ones, and no prime divides the numbers of a combination that is not its multiple.
func wantKernel(t *testing.T, m [][]int, k int) [][]int {
	t.Helper()
	what := fmt.Sprint("Kernel ", m, k)
	rows, e := brandt.Kernel(m, k)
	want(t, what, e, api.OK)
	rest := full(len(m), len(m), 0)
	for i := range m {
		copy(rest[i], m[i])
		rest[i][i] -= k
	}
	want(t, what+": the rank", len(rows), len(m)-rank(rest))
	want(t, what+" in Hermite form", isHermite(rows), true)
	for _, v := range rows {
		for j := range m {
			sum := new(big.Int)
			for i, n := range v {
				sum.Add(sum, new(big.Int).Mul(big.NewInt(int64(n)), big.NewInt(int64(rest[i][j]))))
			}
			want(t, what+": its vectors", sum.Sign(), 0)
		}
	}
	if len(rows) > 0 {
		factors, _, _, e := lattice.Smith(rows)
		want(t, what, e, api.OK)
		for _, f := range factors {
			want(t, what+": an invariant factor", toBig(f).Int64(), 1)
		}
	}
	return rows
}

func TestKernel(t *testing.T) {
	n := numbers(120)
	sizes := map[int]int{}
	for range 300 {
		size := n.between(1, 7)
		m := n.matrix(size, one(&n, 1, 2, 9))
		k := n.between(-3, 3)
		// Some rows are made combinations of others, but for k on the diagonal.
		for range n.between(0, size-1) {
			i, j, by := n.between(0, size-1), n.between(0, size-1), n.between(-4, 4)
			if i == j {
				continue
			}
			for c := range m[i] {
				m[i][c] = by * m[j][c]
			}
			m[i][i] += k
			m[i][j] -= by * k
		}
		sizes[len(wantKernel(t, m, k))]++
	}
	for size := range 4 {
		want(t, fmt.Sprint("many kernels of rank ", size), sizes[size] > 10, true)
	}
	rows, e := brandt.Kernel([][]int{{1, 2}, {3, 0}}, 3)
	wantResult(t, "Kernel", rows, e, [][]int{{3, 2}}, api.OK)
	rows, e = brandt.Kernel([][]int{{1, 2}, {3, 0}}, -2)
	wantResult(t, "Kernel", rows, e, [][]int{{1, -1}}, api.OK)
	rows, e = brandt.Kernel([][]int{{1, 2}, {3, 0}}, 2)
	wantResult(t, "Kernel", rows, e, [][]int(nil), api.OK)
	rows, e = brandt.Kernel([][]int{{0, 0}, {0, 0}}, 0)
	wantResult(t, "Kernel of 0", rows, e, [][]int{{1, 0}, {0, 1}}, api.OK)
	rows, e = brandt.Kernel([][]int{{million}}, million)
	wantResult(t, "Kernel", rows, e, [][]int{{1}}, api.OK)
	rows, e = brandt.Kernel([][]int{{-million, 0}, {1, million}}, -million)
	wantResult(t, "Kernel", rows, e, [][]int{{1, 0}}, api.OK)
}

func TestLargeKernels(t *testing.T) {
	n := numbers(121)
	wantKernel(t, n.matrix(api.MaxClasses, million), million)
	wantKernel(t, full(api.MaxClasses, api.MaxClasses, -million), 0)
	wantKernel(t, full(api.MaxClasses, api.MaxClasses, 3), 180)
	// The numbers of the only vector are 1 and the products of the first steps.
	chain := func(steps ...int) [][]int {
		m := full(len(steps)+1, len(steps)+1, 0)
		for i, by := range steps {
			m[i][i], m[i+1][i] = by, -1
		}
		return m
	}
	for _, x := range []struct {
		steps []int
		e     api.Errno
	}{
		{[]int{million, million}, api.OK}, {[]int{million, million, 1000}, api.OK}, {[]int{-million, million, 1000}, api.OK}, {[]int{million, million, 1001}, api.ErrLarge}, {[]int{-million, million, 1001}, api.ErrLarge}, {[]int{million, million, million}, api.ErrLarge}, {[]int{million, million, million, million, million}, api.ErrLarge},
	} {
		rows, e := brandt.Kernel(chain(x.steps...), 0)
		what := fmt.Sprint("Kernel with the steps ", x.steps)
		if x.e != api.OK {
			wantError(t, what, x.e, rows, e)
			continue
		}
		vector := []int{1}
		for i, by := range x.steps {
			vector = append(vector, vector[i]*by)
		}
		wantResult(t, what, rows, e, [][]int{vector}, api.OK)
	}
}

func TestErrorsOfKernel(t *testing.T) {
	for _, k := range []int{million + 1, -million - 1, least, greatest} {
		rows, e := brandt.Kernel([][]int{{1, 2}, {3, 4}}, k)
		wantError(t, fmt.Sprint("Kernel for ", k), api.ErrRange, rows, e)
	}
	for _, k := range []int{million, -million} {
		wantKernel(t, [][]int{{k, 0}, {5, 1}}, k)
	}
}
