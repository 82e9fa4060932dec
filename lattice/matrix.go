package lattice

import (
	"slices"

	"fourfold/api"
)

// isEntry reports whether n is at most MaxEntry in size.
func isEntry(n int) bool {
	return n >= -api.MaxEntry && n <= api.MaxEntry
}

// isDenominator reports whether n is from 1 to MaxEntry.
func isDenominator(n int) bool {
	return n >= 1 && n <= api.MaxEntry
}

// allEntries reports whether all numbers of a row are at most MaxEntry in size.
func allEntries(row []int) bool {
	return !slices.ContainsFunc(row, func(n int) bool { return !isEntry(n) })
}

// width returns the number of columns; a matrix without rows has none.
func width[T any](m [][]T) int {
	if len(m) == 0 {
		return 0
	}
	return len(m[0])
}

// CheckMatrix returns the error of a matrix.
func CheckMatrix(m [][]int) api.Errno {
	columns := width(m)
	if slices.ContainsFunc(m, func(row []int) bool { return len(row) != columns }) {
		return api.ErrShape
	}
	if len(m) > api.MaxRows || columns > api.MaxRows {
		return api.ErrLarge
	}
	if slices.ContainsFunc(m, func(row []int) bool { return !allEntries(row) }) {
		return api.ErrRange
	}
	return api.OK
}

// hasSize reports whether a valid matrix has n rows and n columns.
func hasSize(m [][]int, n int) bool {
	return len(m) == n && width(m) == n
}

// numbers returns a matrix of numbers.
func numbers(m [][]int) [][]number {
	var list [][]number
	for _, row := range m {
		r := make([]number, len(row))
		for j, n := range row {
			r[j] = numberOf(n)
		}
		list = append(list, r)
	}
	return list
}

// entries returns a matrix of ints, or ErrLarge if one is too large.
func entries(m [][]number) ([][]int, api.Errno) {
	var list [][]int
	for _, row := range m {
		r := make([]int, len(row))
		for j, x := range row {
			n, ok := x.entry()
			if !ok {
				return nil, api.ErrLarge
			}
			r[j] = n
		}
		list = append(list, r)
	}
	return list, api.OK
}

// results returns a matrix of integers of several words, in new memory.
func results(m [][]number) [][]api.Int {
	var list [][]api.Int
	for _, row := range m {
		r := make([]api.Int, len(row))
		for j, x := range row {
			r[j] = x.result()
		}
		list = append(list, r)
	}
	return list
}

// unit returns the unit matrix.
func unit(n int) [][]number {
	m := make([][]number, n)
	for i := range m {
		m[i] = make([]number, n)
		m[i][i] = numberOf(1)
	}
	return m
}

// transpose returns the columns of m, of which there are as many as stated, as rows.
func transpose(m [][]number, columns int) [][]number {
	t := make([][]number, columns)
	for j := range t {
		t[j] = make([]number, len(m))
		for i := range m {
			t[j][i] = m[i][j]
		}
	}
	return t
}

// product returns the matrix a b.
func product(a, b [][]number) [][]number {
	p := make([][]number, len(a))
	for i, row := range a {
		p[i] = make([]number, width(b))
		for k, x := range row {
			addMultiple(p[i], x, b[k])
		}
	}
	return p
}

// addMultiple adds by times other to row.
func addMultiple(row []number, by number, other []number) {
	if by.isZero() {
		return
	}
	for j, x := range other {
		if !x.isZero() {
			row[j] = row[j].plus(by.times(x))
		}
	}
}

// scaled returns the matrix m times by.
func scaled(m [][]number, by number) [][]number {
	list := make([][]number, len(m))
	for i, row := range m {
		list[i] = make([]number, len(row))
		addMultiple(list[i], by, row)
	}
	return list
}
