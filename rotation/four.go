package rotation

import (
	"cmp"

	"fourfold/api"
)

// four are the numbers of 1, i, j and k.
// Those of elements are at most 10^6, so that sums of products of two of them are ints.
type four struct{ w, x, y, z int }

// fourOf returns the numerators of an element.
func fourOf(q api.Quat) four {
	return four{q.W, q.X, q.Y, q.Z}
}

// compare orders by the first numbers that differ.
func (a four) compare(b four) int {
	return cmp.Or(cmp.Compare(a.w, b.w), cmp.Compare(a.x, b.x), cmp.Compare(a.y, b.y), cmp.Compare(a.z, b.z))
}

// times returns the product as quaternions.
func (a four) times(b four) four {
	return four{
		a.w*b.w - a.x*b.x - a.y*b.y - a.z*b.z,
		a.w*b.x + a.x*b.w + a.y*b.z - a.z*b.y,
		a.w*b.y + a.y*b.w + a.z*b.x - a.x*b.z,
		a.w*b.z + a.z*b.w + a.x*b.y - a.y*b.x,
	}
}

// conjugate returns the conjugate.
func (a four) conjugate() four {
	return four{a.w, -a.x, -a.y, -a.z}
}

// minus returns a - b.
func (a four) minus(b four) four {
	return four{a.w - b.w, a.x - b.x, a.y - b.y, a.z - b.z}
}

// scaled returns a times n.
func (a four) scaled(n int) four {
	return four{a.w * n, a.x * n, a.y * n, a.z * n}
}

// over returns a divided by n, which divides all four numbers.
func (a four) over(n int) four {
	return four{a.w / n, a.x / n, a.y / n, a.z / n}
}

// squares returns the sum of the squares, which is the norm of the quaternion.
func (a four) squares() int {
	return a.w*a.w + a.x*a.x + a.y*a.y + a.z*a.z
}

// fits reports whether all four numbers are at most limit in size.
func (a four) fits(limit int) bool {
	return isWithin(a.w, limit) && isWithin(a.x, limit) && isWithin(a.y, limit) && isWithin(a.z, limit)
}

// isWithin reports whether n is from -limit to limit.
func isWithin(n, limit int) bool {
	return n >= -limit && n <= limit
}

// commonDivisor returns the greatest common divisor, not negative.
func commonDivisor(list ...int) int {
	g := 0
	for _, n := range list {
		for n != 0 {
			g, n = n, g%n
		}
	}
	return max(g, -g)
}

// floor returns n / d rounded down, for positive d.
func floor(n, d int) int {
	q := n / d
	if q*d > n {
		q--
	}
	return q
}
