package lattice

import (
	"slices"

	"fourfold/api"
)

// echelon is the Hermite form of the rows that were inserted: the row with its pivot in column j is number j, nil if there is none.
type echelon [][]number

// echelonOf returns the Hermite form of rows with as many columns as stated. The rows stay as they are.
func echelonOf(rows [][]number, columns int) echelon {
	h := make(echelon, columns)
	for _, row := range rows {
		h.insert(slices.Clone(row))
	}
	return h
}

// insert adds a row. Its memory is kept.
func (h echelon) insert(row []number) {
	changed := false
	for j := range row {
		if row[j].isZero() {
			continue
		}
		if h[j] == nil {
			h[j] = positive(row, j)
			changed = true
			break
		}
		q, rest := row[j].divide(h[j][j])
		addMultiple(row[j:], q.negative(), h[j][j:])
		if !rest.isZero() {
			merge(h[j][j:], row[j:])
			changed = true
		}
	}
	// Without this after each row the numbers would grow beyond the minors of the rows.
	if changed {
		h.reduce()
	}
}

// positive returns the row or its opposite, in which the number in column j is positive.
func positive(row []number, j int) []number {
	if row[j].sign() > 0 {
		return row
	}
	for k, x := range row {
		row[k] = x.negative()
	}
	return row
}

// merge replaces two rows that begin with positive numbers by two that span the same lattice and begin with their greatest common divisor and 0.
func merge(pivot, row []number) {
	g, s, t := bezout(pivot[0], row[0])
	a, b := pivot[0].over(g), row[0].over(g)
	for k, x := range pivot {
		y := row[k]
		pivot[k] = s.times(x).plus(t.times(y))
		row[k] = a.times(y).minus(b.times(x))
	}
}

// reduce brings the numbers above each pivot into the range from 0 to the pivot less 1.
func (h echelon) reduce() {
	for i, row := range slices.Backward(h) {
		if row == nil {
			continue
		}
		for j := i + 1; j < len(h); j++ {
			if h[j] != nil && (row[j].sign() < 0 || row[j].compare(h[j][j]) >= 0) {
				addMultiple(row[j:], row[j].over(h[j][j]).negative(), h[j][j:])
			}
		}
	}
}

// rows returns the rows whose pivots stand in a column from the first one stated on, without the columns before it.
func (h echelon) rows(from int) [][]number {
	var list [][]number
	for _, row := range h[from:] {
		if row != nil {
			list = append(list, row[from:])
		}
	}
	return list
}

// beside returns the rows of a, each one continued by that of b.
func beside(a, b [][]number) [][]number {
	var list [][]number
	for i, row := range a {
		list = append(list, slices.Concat(row, b[i]))
	}
	return list
}

// apart returns the first columns of m, as many as stated, and the other ones.
func apart(m [][]number, columns int) (left, right [][]number) {
	for _, row := range m {
		left = append(left, row[:columns])
		right = append(right, row[columns:])
	}
	return left, right
}

// transform returns the Hermite form h of m, which has as many columns as stated, with rows of 0, and u times the unimodular matrix that takes m to h.
func transform(m, u [][]number, columns int) (h, v [][]number) {
	both := echelonOf(beside(m, u), columns+len(u))
	return apart(both.rows(0), columns)
}

// Hermite returns the Hermite form and a transformation.
func Hermite(m [][]int) (h [][]int, u [][]api.Int, e api.Errno) {
	if e := CheckMatrix(m); e != api.OK {
		return nil, nil, e
	}
	form, change := transform(numbers(m), unit(len(m)), width(m))
	h, e = entries(form)
	if e != api.OK {
		return nil, nil, e
	}
	return h, results(change), api.OK
}

// Kernel returns the rows that a matrix takes to 0.
func Kernel(m [][]int) ([][]int, api.Errno) {
	if e := CheckMatrix(m); e != api.OK {
		return nil, e
	}
	columns := width(m)
	both := echelonOf(beside(numbers(m), unit(len(m))), columns+len(m))
	return entries(both.rows(columns))
}
