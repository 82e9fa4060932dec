package quadratic

// solver looks for matrices with n rows, choosing one row after the other.
type solver struct {
	n       int
	vectors [4][]vector                    // those that may stand in each row
	fits    func(t matrix, place int) bool // whether the row at place may follow the rows before it
	found   func(t matrix)                 // is told each solution
}

// search chooses the rows from place on.
func (s solver) search(t matrix, place int) {
	if place == s.n {
		s.found(t)
		return
	}
	for _, x := range s.vectors[place] {
		t[place] = x
		if s.fits(t, place) {
			s.search(t, place+1)
		}
	}
}

// ofValuesOf returns, for each row of g, the vectors of the reduced form f with the value that g has there on its diagonal.
func (f form) ofValuesOf(g form) [4][]vector {
	var lists [4][]vector
	for x, value := range f.upTo(g.longest()) {
		for i := range g.n {
			if 2*value == g.gram[i][i] {
				lists[i] = append(lists[i], x)
			}
		}
	}
	return lists
}
