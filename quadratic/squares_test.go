package quadratic_test

import (
	"fmt"
	"slices"
	"testing"

	"fourfold/api"
	"fourfold/quadratic"
)

// The tests of this file are those of P6.7.

func TestSquares(t *testing.T) {
	const end = 260
	for k := 2; k <= 4; k++ {
		lists := make([][][]int, end+1)
		counts := make([]int, end+1)
		var choose func(x []int, sum int)
		choose = func(x []int, sum int) {
			if len(x) == k {
				counts[sum]++
				if x[k-1] >= 0 && slices.IsSortedFunc(x, func(a, b int) int { return b - a }) {
					lists[sum] = append(lists[sum], slices.Clone(x))
				}
				return
			}
			for n := 16; n >= -16; n-- { // descending, as the lists are to be
				if sum+n*n <= end {
					choose(append(x, n), sum+n*n)
				}
			}
		}
		choose(nil, 0)
		for n := range end + 1 {
			list, e := quadratic.Squares(k, n)
			wantResult(t, fmt.Sprint("Squares ", k, n), list, e, lists[n], api.OK)
			count, e := quadratic.CountSquares(k, n)
			wantResult(t, fmt.Sprint("CountSquares ", k, n), count, e, counts[n], api.OK)
		}
	}
}

// signed is the number of the vectors that a list with signs, in any order, is.
func signed(list []int) int {
	factorial := []int{1, 1, 2, 6, 24}
	count := factorial[len(list)]
	runs := map[int]int{}
	for _, x := range list {
		runs[x]++
		if x != 0 {
			count *= 2
		}
	}
	for _, run := range runs {
		count /= factorial[run]
	}
	return count
}

func TestSumsOfManySquares(t *testing.T) {
	list := []int{99856, 99857, 99989, 99991, 99998, 99999, 100000}
	n := numbers(60)
	for range 40 {
		list = append(list, n.between(1, 100000))
	}
	for _, sum := range list {
		two := 4 * sumOfDivisors(sum, func(d, _ int) int { return []int{0, 1, 0, -1}[d%4] })
		four := 8 * sumOfDivisors(sum, func(d, _ int) int {
			if d%4 == 0 {
				return 0
			}
			return d
		})
		three := 0
		for x := -400; x <= 400; x++ {
			if rest := sum - x*x; rest >= 0 {
				three += made[int](t)(quadratic.CountSquares(2, rest))
			}
		}
		for k, wanted := range map[int]int{2: two, 3: three, 4: four} {
			count, e := quadratic.CountSquares(k, sum)
			wantResult(t, fmt.Sprint("CountSquares ", k, sum), count, e, wanted, api.OK)
			lists, e := quadratic.Squares(k, sum)
			want(t, "Squares", e, api.OK)
			total := 0
			for i, x := range lists {
				total += signed(x)
				squares := 0
				for j, n := range x {
					squares += n * n
					if n < 0 || j > 0 && n > x[j-1] {
						t.Errorf("Squares %d %d: %v", k, sum, x)
					}
				}
				if len(x) != k || squares != sum || i > 0 && slices.Compare(lists[i-1], x) <= 0 {
					t.Errorf("Squares %d %d: %v at %d", k, sum, x, i)
				}
			}
			want(t, fmt.Sprint("the vectors of Squares ", k, sum), total, wanted)
		}
	}
}

func TestExamplesOfSquares(t *testing.T) {
	list, e := quadratic.Squares(4, 4)
	wantResult(t, "Squares", list, e, [][]int{{2, 0, 0, 0}, {1, 1, 1, 1}}, api.OK)
	list, e = quadratic.Squares(2, 25)
	wantResult(t, "Squares", list, e, [][]int{{5, 0}, {4, 3}}, api.OK)
	list, e = quadratic.Squares(3, 7)
	wantResult(t, "Squares", list, e, [][]int{}, api.OK)
	list, e = quadratic.Squares(2, 100000)
	wantResult(t, "Squares", list, e, [][]int{{316, 12}, {300, 100}, {260, 180}}, api.OK)
	for k := 2; k <= 4; k++ {
		list, e := quadratic.Squares(k, 0)
		wantResult(t, "Squares of 0", list, e, [][]int{make([]int, k)}, api.OK)
		count, e := quadratic.CountSquares(k, 0)
		wantResult(t, "CountSquares of 0", count, e, 1, api.OK)
	}
	for _, x := range [][3]int{{4, 4, 24}, {2, 25, 12}, {3, 7, 0}, {4, 3, 32}, {2, 3, 0}, {2, 1, 4}, {3, 1, 6}, {4, 100000, 93744}} {
		count, e := quadratic.CountSquares(x[0], x[1])
		wantResult(t, fmt.Sprint("CountSquares ", x), count, e, x[2], api.OK)
	}
}

func TestErrorsOfSquares(t *testing.T) {
	for _, x := range []struct {
		k, n int
		e    api.Errno
	}{{0, 1, api.ErrShape}, {1, 1, api.ErrShape}, {5, 1, api.ErrShape}, {-2, 1, api.ErrShape}, {least, 1, api.ErrShape}, {greatest, 1, api.ErrShape}, {1, -1, api.ErrShape}, {5, 100001, api.ErrShape}, {2, -1, api.ErrRange}, {4, -1, api.ErrRange}, {2, 100001, api.ErrRange}, {4, 100001, api.ErrRange}, {3, least, api.ErrRange}, {3, greatest, api.ErrRange}} {
		wantError(t, fmt.Sprint("Squares ", x.k, x.n), x.e, all(quadratic.Squares(x.k, x.n))...)
		wantError(t, fmt.Sprint("CountSquares ", x.k, x.n), x.e, all(quadratic.CountSquares(x.k, x.n))...)
	}
}
