package quadratic

import (
	"slices"

	"fourfold/api"
)

// squares looks for lists of k numbers that do not ascend, with squares of a given sum.
type squares struct {
	k     int
	found func(list []int) // is told each one; the list changes afterwards
}

// search goes through the lists that begin as stated, descending, where rest is left of the sum.
func (s squares) search(list []int, rest int) {
	left := s.k - len(list)
	if left == 0 {
		s.found(list)
		return
	}
	greatest := root(rest)
	if len(list) > 0 {
		greatest = min(greatest, list[len(list)-1])
	}
	for x := greatest; x >= 0 && left*x*x >= rest; x-- {
		s.search(append(list, x), rest-x*x)
	}
}

// checkSquares returns the error of a sum of k squares.
func checkSquares(k, n int) api.Errno {
	const least, most = 2, 4
	if k < least || k > most {
		return api.ErrShape
	}
	if n < 0 || n > api.MaxSquares {
		return api.ErrRange
	}
	return api.OK
}

// Squares returns the lists that do not ascend of k numbers that are not negative, with squares of the sum n.
func Squares(k, n int) ([][]int, api.Errno) {
	if e := checkSquares(k, n); e != api.OK {
		return nil, e
	}
	var lists [][]int
	s := squares{k: k, found: func(list []int) { lists = append(lists, slices.Clone(list)) }}
	s.search(nil, n)
	return lists, api.OK
}

// arrangements returns how many vectors are a list, which does not ascend, with signs and in any order.
func arrangements(list []int) int {
	count, run := 1, 0
	for i, x := range list {
		if i > 0 && x == list[i-1] {
			run++
		} else {
			run = 1
		}
		count = count * (i + 1) / run
		if x > 0 {
			count *= 2
		}
	}
	return count
}

// CountSquares returns the number of vectors of k integers with squares of the sum n.
func CountSquares(k, n int) (int, api.Errno) {
	if e := checkSquares(k, n); e != api.OK {
		return 0, e
	}
	count := 0
	s := squares{k: k, found: func(list []int) { count += arrangements(list) }}
	s.search(nil, n)
	return count, api.OK
}
