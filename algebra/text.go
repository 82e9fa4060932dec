package algebra

import (
	"strconv"
	"strings"

	"fourfold/api"
)

// letters are those of the numerators behind the first one.
const letters = "ijk"

// Format returns the text of an element.
func Format(q api.Quat) (string, api.Errno) {
	q, e := Normal(q)
	if e != api.OK {
		return "", e
	}
	text := numeratorsOf(q).sum()
	if q.Den != 1 {
		text = "(" + text + ")/" + strconv.Itoa(q.Den)
	}
	return text, api.OK
}

// sum returns the text of the terms.
func (n numerators) sum() string {
	text := ""
	for place, c := range n {
		if c == 0 {
			continue
		}
		minus, plus := " - ", " + "
		if text == "" {
			minus, plus = "-", ""
		}
		if c < 0 {
			text += minus + term(place, -c)
		} else {
			text += plus + term(place, c)
		}
	}
	if text == "" {
		return "0"
	}
	return text
}

// term returns the text of c, which is positive, with its letter.
func term(place, c int) string {
	switch {
	case place == 0:
		return strconv.Itoa(c)
	case c == 1:
		return letters[place-1 : place]
	}
	return strconv.Itoa(c) + letters[place-1:place]
}

// Parse returns the element with the text s.
func Parse(s string) (api.Quat, api.Errno) {
	const most = 200
	if len(s) > most {
		return api.Quat{}, api.ErrLarge
	}
	// An element has one text only: whatever is read is held against s.
	q := read(s)
	if text, e := Format(q); e != api.OK || text != s {
		return api.Quat{}, api.ErrSyntax
	}
	return q, api.OK
}

// read returns the element with the text s, and anything if there is none.
func read(s string) api.Quat {
	den := 1
	if inner, is := strings.CutPrefix(s, "("); is {
		sum, below, _ := strings.Cut(inner, ")/")
		s = sum
		den, _ = strconv.Atoi(below)
	}
	var n numerators
	for _, part := range strings.Split(strings.ReplaceAll(s, " - ", " + -"), " + ") {
		place, c := readTerm(part)
		n[place] = c
	}
	return api.Quat{W: n[0], X: n[1], Y: n[2], Z: n[3], Den: den}
}

// readTerm returns the place and the number of the term with the text s, and any if there is none.
func readTerm(s string) (place, c int) {
	digits := strings.TrimRight(s, letters)
	if digits != s {
		place = strings.Index(letters, s[len(s)-1:]) + 1
		if digits == "" || digits == "-" {
			digits += "1"
		}
	}
	c, _ = strconv.Atoi(digits)
	return place, c
}
