package order

import (
	"iter"
	"slices"
)

// numbers are the coordinates of an element in a basis, or its numerators over a denominator that stands elsewhere.
type numbers [4]int

// combinations yields all lists of numbers from low to high, place by place, in lexicographic order.
func combinations(low, high numbers) iter.Seq[numbers] {
	return func(yield func(numbers) bool) {
		var c numbers
		var choose func(place int) bool
		choose = func(place int) bool {
			if place == len(c) {
				return yield(c)
			}
			for c[place] = low[place]; c[place] <= high[place]; c[place]++ {
				if !choose(place + 1) {
					return false
				}
			}
			return true
		}
		choose(0)
	}
}

// each returns four times the number n.
func each(n int) numbers {
	return numbers{n, n, n, n}
}

// isDirection reports whether the first number of c other than 0 is 1.
func isDirection(c numbers) bool {
	first := slices.IndexFunc(c[:], func(n int) bool { return n != 0 })
	return first >= 0 && c[first] == 1
}

// plus returns x + t y.
func (x numbers) plus(t int, y numbers) numbers {
	for j, n := range y {
		x[j] += t * n
	}
	return x
}

// of returns the combination of a basis with the coordinates c.
func (c numbers) of(basis [4]numbers) numbers {
	var sum numbers
	for i, b := range basis {
		sum = sum.plus(c[i], b)
	}
	return sum
}
