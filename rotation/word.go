package rotation

import (
	"maps"
	"slices"

	"fourfold/api"
)

const (
	mostGenerators = 6
	mostLetters    = 60
	mostElements   = 60
)

// acceptLetters returns the rotations of the letters 1, -1, 2, -2, .., or the error of the generators.
func acceptLetters(gens []api.Quat) ([]turn, api.Errno) {
	if len(gens) < 1 || len(gens) > mostGenerators {
		return nil, api.ErrRange
	}
	var letters []turn
	for _, g := range gens {
		t, e := acceptTurn(g)
		if e != api.OK {
			return nil, e
		}
		if !t.fits(api.MaxParam) {
			return nil, api.ErrLarge
		}
		letters = append(letters, t, t.inverse())
	}
	return letters, api.OK
}

// letterAt returns the letter at a place of the list of all letters.
func letterAt(place int) int {
	l := place/2 + 1
	if place%2 == 1 {
		return -l
	}
	return l
}

// placeOf returns the place of a letter in the list of all letters; it is none of them if it is 0 or too great in size.
func placeOf(letter, letters int) (int, bool) {
	switch most := letters / 2; {
	case letter > 0 && letter <= most:
		return 2 * (letter - 1), true
	case letter < 0 && letter >= -most:
		return 2*(-letter-1) + 1, true
	}
	return 0, false
}

// spelled is a rotation with the first word that means it.
type spelled struct {
	turn
	word []int
}

// search goes through the rotations of words, from the shorter to the longer words.
type search struct {
	letters []turn
	seen    map[turn]bool // all rotations that have been reached
	last    []spelled     // those that words of the present length have reached, in the order of their words
}

// begin returns a search that has reached the rotation of the empty word.
func begin(letters []turn) *search {
	none := turnOf(four{w: 1})
	return &search{letters: letters, seen: map[turn]bool{none: true}, last: []spelled{{turn: none}}}
}

// lengthen goes on to the words that have one letter more.
// The first word of a rotation begins with the first word of another one, so that it is enough to lengthen those.
func (s *search) lengthen() {
	var next []spelled
	for _, old := range s.last {
		for place, l := range s.letters {
			t := old.after(l)
			if s.seen[t] {
				continue
			}
			s.seen[t] = true
			word := append(slices.Clone(old.word), letterAt(place))
			next = append(next, spelled{turn: t, word: word})
		}
	}
	s.last = next
}

// isTooLarge reports whether there are more than most rotations, or one that words of the present length have reached is too large.
func (s *search) isTooLarge(most int) bool {
	return len(s.seen) > most || slices.ContainsFunc(s.last, func(r spelled) bool { return !r.fits(api.MaxCoord) })
}

// Word returns the first word with the rotation of x.
func Word(x api.Quat, gens []api.Quat, most int) ([]int, api.Errno) {
	goal, e := acceptTurn(x)
	if e != api.OK {
		return nil, e
	}
	letters, e := acceptLetters(gens)
	if e != api.OK {
		return nil, e
	}
	if most < 0 || most > api.MaxSteps {
		return nil, api.ErrRange
	}
	s := begin(letters)
	for k := 0; ; k++ {
		place := slices.IndexFunc(s.last, func(r spelled) bool { return r.turn == goal })
		switch {
		case place >= 0:
			return s.last[place].word, api.OK
		case k == most:
			return nil, api.ErrNone
		case s.isTooLarge(api.MaxReach):
			return nil, api.ErrLarge
		}
		s.lengthen()
	}
}

// Evaluate returns the reduced quaternion of the rotation of a word.
func Evaluate(word []int, gens []api.Quat) (api.Quat, api.Errno) {
	letters, e := acceptLetters(gens)
	if e != api.OK {
		return api.Quat{}, e
	}
	if len(word) > mostLetters {
		return api.Quat{}, api.ErrRange
	}
	var turns []turn
	for _, l := range word {
		place, is := placeOf(l, len(letters))
		if !is {
			return api.Quat{}, api.ErrMissing
		}
		turns = append(turns, letters[place])
	}
	product := turnOf(four{w: 1})
	for _, t := range turns {
		product = product.after(t)
		if !product.fits(api.MaxCoord) {
			return api.Quat{}, api.ErrLarge
		}
	}
	return product.result(), api.OK
}

// Group returns the reduced quaternions of all rotations that words in the generators have, ascending.
func Group(gens []api.Quat, most int) ([]api.Quat, api.Errno) {
	letters, e := acceptLetters(gens)
	if e != api.OK {
		return nil, e
	}
	if most < 1 || most > mostElements {
		return nil, api.ErrRange
	}
	s := begin(letters)
	for len(s.last) > 0 {
		if s.isTooLarge(most) {
			return nil, api.ErrLarge
		}
		s.lengthen()
	}
	var list []api.Quat
	for _, t := range slices.SortedFunc(maps.Keys(s.seen), turn.compare) {
		list = append(list, t.result())
	}
	return list, api.OK
}
