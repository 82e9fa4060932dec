package algebra

import (
	"cmp"

	"fourfold/api"
)

// isRoot reports whether the square of x is n in the algebra b.
func isRoot(b api.Algebra, x api.Quat, n int) bool {
	m := numeratorsOf(x)
	return m.times(b, m) == numerators{n * x.Den * x.Den}
}

// changeSign reports whether the product of x and y changes its sign when they are exchanged, in the algebra b.
func changeSign(b api.Algebra, x, y api.Quat) bool {
	n, m := numeratorsOf(x), numeratorsOf(y)
	return n.times(b, m) == m.times(b, n).scaled(-1)
}

// CheckIsomorphism accepts the images of i and j of a in b.
func CheckIsomorphism(a, b api.Algebra, l []api.Quat) api.Errno {
	if e := cmp.Or(Check(a), Check(b)); e != api.OK {
		return e
	}
	if len(l) != 2 {
		return api.ErrShape
	}
	if e := checkQuats(l...); e != api.OK {
		return e
	}
	x, y := l[0], l[1]
	if !isRoot(b, x, a.A) || !isRoot(b, y, a.B) || !changeSign(b, x, y) {
		return api.ErrProof
	}
	return api.OK
}

// candidates yields the elements among which an isomorphism is searched, in their order.
func candidates(yield func(api.Quat) bool) {
	for den := 1; den <= 2; den++ {
		for x := -api.MaxSearch; x <= api.MaxSearch; x++ {
			for y := -api.MaxSearch; y <= api.MaxSearch; y++ {
				for z := -api.MaxSearch; z <= api.MaxSearch; z++ {
					lowest := commonDivisor(den, x, y, z) == 1
					if lowest && !yield(api.Quat{X: x, Y: y, Z: z, Den: den}) {
						return
					}
				}
			}
		}
	}
}

// Isomorphism searches images of i and j of a in b.
func Isomorphism(a, b api.Algebra) (x, y api.Quat, e api.Errno) {
	if e := cmp.Or(Check(a), Check(b)); e != api.OK {
		return api.Quat{}, api.Quat{}, e
	}
	if !isIsomorphic(a, b) {
		return api.Quat{}, api.Quat{}, api.ErrNone
	}
	var first, second []api.Quat
	for q := range candidates {
		if isRoot(b, q, a.A) {
			first = append(first, q)
		}
		if isRoot(b, q, a.B) {
			second = append(second, q)
		}
	}
	for _, x := range first {
		for _, y := range second {
			if changeSign(b, x, y) {
				return x, y, api.OK
			}
		}
	}
	return api.Quat{}, api.Quat{}, api.ErrOpen
}
