package lattice

import "fourfold/api"

// Smith returns the invariant factors and transformations.
func Smith(m [][]int) (d []api.Int, u, v [][]api.Int, e api.Errno) {
	if e := CheckMatrix(m); e != api.OK {
		return nil, nil, nil, e
	}
	s := smith{matrix: numbers(m), left: unit(len(m)), right: unit(width(m))}
	s.diagonalize()
	s.divide()
	for i := range s.length() {
		d = append(d, s.matrix[i][i].result())
	}
	return d, results(s.left), results(transpose(s.right, len(s.right))), api.OK
}

// smith is a matrix on its way to the Smith form: left times the matrix of the beginning times the transposed right is matrix.
type smith struct {
	matrix, left, right [][]number
}

// length returns the length of the diagonal.
func (s *smith) length() int {
	return min(len(s.left), len(s.right))
}

// diagonalize makes the matrix diagonal, by Hermite forms of its rows and of its columns in turn.
// This ends: as long as the first row is not done, each turn replaces its pivot by a proper divisor, or else clears the row; then the same holds for the next row.
func (s *smith) diagonalize() {
	for !s.isDiagonal() {
		rows, columns := len(s.left), len(s.right)
		s.matrix, s.left = transform(s.matrix, s.left, columns)
		turned, right := transform(transpose(s.matrix, columns), s.right, rows)
		s.matrix, s.right = transpose(turned, rows), right
	}
}

// isDiagonal reports whether the matrix is 0 beside its diagonal, on which no number is negative.
func (s *smith) isDiagonal() bool {
	for i, row := range s.matrix {
		for j, x := range row {
			if x.sign() < 0 || i != j && !x.isZero() {
				return false
			}
		}
	}
	return true
}

// divide makes each number of the diagonal divide the next ones.
func (s *smith) divide() {
	for i := range s.length() {
		for j := i + 1; j < s.length(); j++ {
			s.pair(i, j)
		}
	}
}

// pair replaces two numbers of the diagonal by their greatest common divisor and their least common multiple.
func (s *smith) pair(i, j int) {
	a, b := s.matrix[i][i], s.matrix[j][j]
	switch {
	case b.isZero():
		return
	case a.isZero():
		s.matrix[i][i], s.matrix[j][j] = b, a
		s.left[i], s.left[j] = s.left[j], s.left[i]
		s.right[i], s.right[j] = s.right[j], s.right[i]
		return
	}
	if _, rest := b.divide(a); rest.isZero() {
		return
	}
	g, x, y := bezout(a, b)
	one, p, q := numberOf(1), a.over(g), b.over(g)
	s.matrix[i][i], s.matrix[j][j] = g, p.times(b)
	mix(s.left[i], s.left[j], [4]number{x, y, q.negative(), p})
	mix(s.right[i], s.right[j], [4]number{one, one, y.times(q).negative(), x.times(p)})
}

// mix replaces the rows a and b by by[0] a + by[1] b and by[2] a + by[3] b.
func mix(a, b []number, by [4]number) {
	for k, x := range a {
		y := b[k]
		a[k] = by[0].times(x).plus(by[1].times(y))
		b[k] = by[2].times(x).plus(by[3].times(y))
	}
}
