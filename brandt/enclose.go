package brandt

import (
	"cmp"

	"fourfold/api"
	"fourfold/exact"
	"fourfold/integer"
)

// grid is a Sturm chain with the numbers of its changes of sign at the multiples of a fraction.
type grid struct {
	chain   []polynomial // its roots are divided by the fraction: the multiples are the integers
	changes map[int]int  // where they have been counted
}

// gridOf returns the chain at the multiples of 1 / den.
func gridOf(chain []polynomial, den int) grid {
	g := grid{changes: map[int]int{}}
	for _, p := range chain {
		g.chain = append(g.chain, p.stretched(den))
	}
	return g
}

// at returns the number of changes of sign at number k.
func (g grid) at(k int) int {
	count, ok := g.changes[k]
	if !ok {
		count = changesAt(g.chain, k, 1)
		g.changes[k] = count
	}
	return count
}

// signAt returns the sign of the squarefree part at number k.
func (g grid) signAt(k int) int {
	return g.chain[0].signAt(k, 1)
}

// outside returns the number of roots that are greater than number most, in size.
func (g grid) outside(most int) int {
	count := changesBelow(g.chain) - g.at(-most) + g.at(most) - changesAbove(g.chain)
	if g.signAt(-most) == 0 {
		count--
	}
	return count
}

// place returns the number at or next behind the only root that is greater than number low and at most number high. There the sign of the squarefree part changes, so that the others need not be known.
func (g grid) place(low, high int) int {
	last := g.signAt(high) // 0 if the root is there: then it is 0 nowhere before
	for high-low > 1 {
		middle := low + (high-low)/2
		switch g.signAt(middle) {
		case 0:
			return middle
		case last:
			high = middle
		default:
			low = middle
		}
	}
	return high
}

// intervals hands over the numbers at or next behind the roots that are greater than number low and at most number high, ascending, each one with the number of its roots.
func (g grid) intervals(low, high int, yield func(end, count int)) {
	count := g.at(low) - g.at(high)
	switch {
	case count == 1:
		yield(g.place(low, high), 1)
	case count > 1 && high-low == 1:
		yield(high, count)
	case count > 1:
		middle := low + (high-low)/2
		g.intervals(low, middle, yield)
		g.intervals(middle, high, yield)
	}
}

// fraction returns num / den in lowest terms, for positive den.
func fraction(num, den int) api.Frac {
	f, _ := exact.Quotient(integer.Of(num), integer.Of(den)).Frac()
	return f
}

// Enclose returns all intervals between neighbouring multiples of 1 / den in which there are roots.
func Enclose(p []api.Int, den int) ([]api.Enclosure, api.Errno) {
	const (
		mostDen  = 1000
		mostRoot = 1000000
	)
	q, e := acceptPolynomial(p)
	if e != api.OK {
		return nil, e
	}
	if den < 1 || den > mostDen {
		return nil, api.ErrRange
	}
	g := gridOf(q.sturm(), den)
	most := mostRoot * den
	if g.outside(most) > 0 {
		return nil, api.ErrLarge
	}
	var list []api.Enclosure
	g.intervals(-most-1, most, func(end, count int) {
		list = append(list, api.Enclosure{Lo: fraction(end-1, den), Hi: fraction(end, den), Count: count})
	})
	return list, api.OK
}

// prove reports whether the intervals of a list ascend, have the stated numbers of roots, and have all of them.
func prove(chain []polynomial, list []api.Enclosure) bool {
	rest := changesBelow(chain) - changesAbove(chain)
	for i, x := range list {
		if !isLess(x.Lo, x.Hi) || x.Count < 1 || i > 0 && isLess(x.Lo, list[i-1].Hi) {
			return false
		}
		if between(chain, x.Lo, x.Hi) != x.Count {
			return false
		}
		rest -= x.Count
	}
	return rest == 0
}

// CheckEnclosures returns OK if the intervals ascend and have all real roots of p.
func CheckEnclosures(p []api.Int, l []api.Enclosure) api.Errno {
	q, e := acceptPolynomial(p)
	if e != api.OK {
		return e
	}
	if len(l) > api.MaxPoly {
		return api.ErrLarge
	}
	for _, x := range l {
		if e := cmp.Or(checkFraction(x.Lo), checkFraction(x.Hi)); e != api.OK {
			return e
		}
	}
	if !prove(q.sturm(), l) {
		return api.ErrProof
	}
	return api.OK
}
