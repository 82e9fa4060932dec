package rotation_test

import (
	"fmt"
	"slices"
	"testing"

	"fourfold/api"
	"fourfold/rotation"
)

// The tests of this file are those of P7.9.

// meaning is the product of a word, by the definition: not reduced.
func meaning(word []int, gens []api.Quat) exact {
	x := of(whole(1, 0, 0, 0))
	for _, l := range word {
		if l > 0 {
			x = x.times(of(gens[l-1]))
		} else {
			x = x.times(of(gens[-l-1]).inverse())
		}
	}
	return x
}

// alike reports whether two quaternions have the same rotation: one is a multiple of the other one.
func alike(x, y exact) bool {
	p := x.times(y.inverse())
	return p[1].Sign() == 0 && p[2].Sign() == 0 && p[3].Sign() == 0
}

// words are all words of k letters, in their order.
func words(k, gens int) [][]int {
	if k == 0 {
		return [][]int{nil}
	}
	var list [][]int
	for _, w := range words(k-1, gens) {
		for l := 1; l <= gens; l++ {
			list = append(list, append(slices.Clone(w), l), append(slices.Clone(w), -l))
		}
	}
	return list
}

// firstWord is the first word of at most k letters with the rotation of x.
func firstWord(x api.Quat, gens []api.Quat, k int) ([]int, api.Errno) {
	for length := range k + 1 {
		for _, w := range words(length, len(gens)) {
			if alike(meaning(w, gens), of(x)) {
				return w, api.OK
			}
		}
	}
	return nil, api.ErrNone
}

// generators are some elements, often with some of a finite order.
func (n *numbers) generators(most, size int) []api.Quat {
	var gens []api.Quat
	for range n.between(1, most) {
		g := n.some(size)
		if n.between(0, 2) == 0 {
			g = one(n, whole(1, 1, 0, 0), whole(0, 0, 1, 0), half(1, 1, 1, 1), whole(1, 0, 0, -1), whole(0, 1, 1, 0), whole(-4, 0, 0, 0))
		}
		gens = append(gens, g)
	}
	return gens
}

func TestWord(t *testing.T) {
	n := numbers(70)
	lengths := map[int]int{}
	for range 800 {
		gens := n.generators(3, 3)
		most := one(&n, 0, 1, 2, 3, 4, 4, 4)
		var word []int
		for range one(&n, 0, 1, 2, 3, 4, 4) {
			word = append(word, one(&n, 1, -1)*n.between(1, len(gens)))
		}
		x := meaning(word, gens).quat()
		x = over(n.between(1, 9), -x.W, -x.X, -x.Y, -x.Z)
		if n.between(0, 9) == 0 {
			x = n.some(3)
		}
		wanted, f := firstWord(x, gens, most)
		got, e := rotation.Word(x, gens, most)
		wantResult(t, fmt.Sprint("Word of ", x, " in ", gens, ", at most ", most), got, e, wanted, f)
		lengths[len(got)]++
	}
	for k := range 5 {
		if lengths[k] < 10 {
			t.Errorf("only %d words of %d letters", lengths[k], k)
		}
	}
}

func TestSpecialWords(t *testing.T) {
	quarter := []api.Quat{whole(1, 1, 0, 0)}
	turns := []api.Quat{whole(2, 1, 0, 0), whole(2, 0, 1, 0)}
	for _, x := range []struct {
		q    api.Quat
		gens []api.Quat
		most int
		want []int
	}{
		{whole(1, 0, 0, 0), quarter, 0, nil},
		{over(7, -3, 0, 0, 0), quarter, 8, nil},
		{whole(0, 1, 0, 0), quarter, 8, []int{1, 1}},
		{whole(1, -1, 0, 0), quarter, 8, []int{-1}},
		{whole(1, 1, 0, 0), []api.Quat{whole(1, -1, 0, 0), whole(1, 1, 0, 0)}, 8, []int{-1}},
		{whole(1, -1, 0, 0), []api.Quat{whole(1, 1, 0, 0), whole(1, -1, 0, 0)}, 8, []int{-1}},
		// The letters stand from the left to the right.
		{product(turns[0], turns[1]), turns, 8, []int{1, 2}},
		{product(turns[1], turns[0]), turns, 8, []int{2, 1}},
		{product(turns[0], turns[0], turns[1]), turns, 3, []int{1, 1, 2}},
		{product(slices.Repeat(turns[:1], 8)...), turns[:1], 8, []int{1, 1, 1, 1, 1, 1, 1, 1}},
		{product(slices.Repeat([]api.Quat{whole(2, -1, 0, 0)}, 8)...), turns[:1], 8, []int{-1, -1, -1, -1, -1, -1, -1, -1}},
	} {
		got, e := rotation.Word(x.q, x.gens, x.most)
		wantResult(t, fmt.Sprint("Word of ", x.q, " in ", x.gens), got, e, x.want, api.OK)
	}
	wantError(t, "a word of 9 letters", api.ErrNone, all(rotation.Word(product(slices.Repeat(turns[:1], 9)...), turns[:1], 8))...)
	wantError(t, "a word of 3 letters", api.ErrNone, all(rotation.Word(product(turns[0], turns[1], turns[0]), turns, 2))...)
	wantError(t, "no word", api.ErrNone, all(rotation.Word(whole(3, 1, 0, 0), quarter, 8))...)
	wantError(t, "no word but the empty one", api.ErrNone, all(rotation.Word(whole(1, 1, 0, 0), quarter, 0))...)
	wantError(t, "no generator", api.ErrNone, all(rotation.Word(whole(1, 1, 0, 0), []api.Quat{whole(9, 0, 0, 0)}, 8))...)
}

func TestErrorsOfWords(t *testing.T) {
	one, zero, good := whole(1, 0, 0, 0), whole(0, 0, 0, 0), whole(1, 1, 0, 0)
	large := whole(0, 1001, 1, 0)
	check := func(gens []api.Quat, e api.Errno) {
		t.Helper()
		wantError(t, fmt.Sprint("Word in ", gens), e, all(rotation.Word(one, gens, 9))...)
		wantError(t, fmt.Sprint("Word in ", gens), e, all(rotation.Word(one, gens, 0))...)
		wantError(t, fmt.Sprint("Evaluate in ", gens), e, all(rotation.Evaluate(make([]int, 61), gens))...)
		wantError(t, fmt.Sprint("Evaluate in ", gens), e, all(rotation.Evaluate(nil, gens))...)
		wantError(t, fmt.Sprint("Group of ", gens), e, all(rotation.Group(gens, 61))...)
		wantError(t, fmt.Sprint("Group of ", gens), e, all(rotation.Group(gens, 60))...)
	}
	check(nil, api.ErrRange)
	check([]api.Quat{}, api.ErrRange)
	check([]api.Quat{good, good, good, good, good, good, good}, api.ErrRange)
	check([]api.Quat{zero, zero, zero, zero, zero, zero, zero}, api.ErrRange)
	check([]api.Quat{good, zero, {}}, api.ErrZero)
	check([]api.Quat{good, {}, zero}, api.ErrForm)
	check([]api.Quat{large, zero, {}}, api.ErrLarge)
	check([]api.Quat{zero, large}, api.ErrZero)
	for _, q := range []api.Quat{large, whole(1001, 1, 0, 0), whole(1, -1001, 0, 0), whole(1, 0, 0, 1001), whole(-1001, 0, 0, 2), over(9, 2002, 2, 0, 0), whole(coord, 1, 0, 0)} {
		check([]api.Quat{q}, api.ErrLarge)
		check([]api.Quat{good, good, good, good, good, q}, api.ErrLarge)
	}
	for _, most := range []int{-1, 9, least, greatest} {
		wantError(t, fmt.Sprint("Word, at most ", most), api.ErrRange, all(rotation.Word(one, []api.Quat{good}, most))...)
	}
	for _, q := range []api.Quat{whole(1000, 999, 0, 0), whole(2000, 2, 0, 0), whole(coord, 0, 0, 0), over(coord, -1000, 1000, -1000, 999), whole(0, 0, 500, -1000)} {
		word, e := rotation.Word(q, []api.Quat{good, good, good, good, good, q}, 8)
		wanted := []int{6}
		if q.X == 0 && q.Y == 0 && q.Z == 0 {
			wanted = nil
		}
		wantResult(t, fmt.Sprint("Word of the generator ", q), word, e, wanted, api.OK)
	}
}

func TestHowManyRotationsAreReached(t *testing.T) {
	// Words of at most 4 letters in these generators give 3000 and 3001 rotations.
	three := []api.Quat{whole(1, 0, -1, 0), whole(2, 2, 3, 1), whole(3, 2, 0, 3), whole(3, 1, -2, -2), whole(0, 3, -2, -3)}
	more := []api.Quat{whole(2, 0, -2, 1), whole(2, 1, -2, 1), whole(2, 2, 1, 2), whole(2, 2, 1, 0)}
	for _, x := range []struct {
		gens []api.Quat
		want int
	}{{three, 3000}, {more, 3001}} {
		reached := map[api.Quat]bool{}
		for k := range 5 {
			for _, w := range words(k, len(x.gens)) {
				p := whole(1, 0, 0, 0)
				for _, l := range w {
					g := x.gens[max(l, -l)-1]
					if l < 0 {
						g = whole(g.W, -g.X, -g.Y, -g.Z)
					}
					p = reduced(product(p, g))
				}
				reached[p] = true
			}
		}
		want(t, fmt.Sprint("how many rotations there are of ", x.gens), len(reached), x.want)
	}
	five := func(gens []api.Quat) api.Quat { return reduced(meaning([]int{2, 3, 2, 3, 3}, gens).quat()) }
	word, e := rotation.Word(five(three), three, 5)
	wantResult(t, "five letters, after 3000 rotations", word, e, []int{2, 3, 2, 3, 3}, api.OK)
	wantError(t, "six letters, after many rotations", api.ErrLarge, all(rotation.Word(whole(1, 30, 0, 0), three, 8))...)
	wantError(t, "five letters, after 3001 rotations", api.ErrLarge, all(rotation.Word(five(more), more, 5))...)
	wantError(t, "no more letters, after 3001 rotations", api.ErrNone, all(rotation.Word(five(more), more, 4))...)
	word, e = rotation.Word(meaning([]int{4, -3, -3, -4}, more).quat(), more, 8)
	wantResult(t, "four letters, with 3001 rotations", word, e, []int{4, -3, -3, -4}, api.OK)
}

func TestHowLargeTheRotationsAre(t *testing.T) {
	small := whole(2, 0, 0, 1)
	power := func(k int) api.Quat { return product(slices.Repeat([]api.Quat{small}, k)...) }
	// Two letters give the coordinate 1000000 in the first case, and 1000001 in the second one.
	within := []api.Quat{whole(1000, 1, 0, 0), whole(1000, 0, 1, 0), small}
	beyond := []api.Quat{whole(1000, 1, 0, 0), whole(1000, -1, 1, 0), small}
	want(t, "the product", product(within[0], within[1]), whole(coord, 1000, 1000, 1))
	want(t, "the product", product(beyond[0], beyond[1]), whole(coord+1, 0, 1000, 1))
	word, e := rotation.Word(power(3), within, 8)
	wantResult(t, "three letters", word, e, []int{3, 3, 3}, api.OK)
	wantError(t, "four letters", api.ErrLarge, all(rotation.Word(power(4), within, 8))...)
	wantError(t, "four letters, of at most 3", api.ErrNone, all(rotation.Word(power(4), within, 3))...)
	word, e = rotation.Word(power(2), beyond, 8)
	wantResult(t, "two letters", word, e, []int{3, 3}, api.OK)
	wantError(t, "three letters", api.ErrLarge, all(rotation.Word(power(3), beyond, 8))...)
	wantError(t, "three letters, of at most 2", api.ErrNone, all(rotation.Word(power(3), beyond, 2))...)
	for i, gens := range [][]api.Quat{within, beyond} {
		for _, word := range [][]int{{1, 2}, {1, 2, -2}, {1, 2, -2, -1}, {1, 2, 1, -1}} {
			got, e := rotation.Evaluate(word, gens)
			if i == 1 || len(word) == 4 && word[2] == 1 {
				wantError(t, fmt.Sprint("Evaluate of ", word), api.ErrLarge, got, e)
			} else {
				wantResult(t, fmt.Sprint("Evaluate of ", word), got, e, reduced(meaning(word, gens).quat()), api.OK)
			}
		}
	}
	for _, x := range []struct {
		gens []api.Quat
		last int
	}{
		{[]api.Quat{whole(0, 1000, -995, -594), whole(0, 400, 602, -335)}, coord},
		{[]api.Quat{whole(0, 1000, 995, 594), whole(0, 400, -602, 335)}, -coord},
		{[]api.Quat{whole(0, 1000, -983, 522), whole(0, 647, 364, -554)}, coord + 1},
		{[]api.Quat{whole(0, 1000, -983, -831), whole(0, 647, 364, 348)}, -coord - 1},
	} {
		// Two half turns about axes at a right angle, and their product: a group of four.
		third := reduced(product(x.gens...))
		want(t, "the last coordinate", third.Z, x.last)
		group, e := rotation.Group(x.gens, 60)
		if !fits(third, coord) {
			wantError(t, "a group with a large rotation", api.ErrLarge, group, e)
		} else {
			wantResult(t, "a group with a rotation at the limit", group, e, closure(x.gens, 4), api.OK)
		}
	}
}

// fits reports whether all numerators are at most limit in size.
func fits(q api.Quat, limit int) bool {
	return max(q.W, q.X, q.Y, q.Z) <= limit && min(q.W, q.X, q.Y, q.Z) >= -limit
}

func TestEvaluate(t *testing.T) {
	n := numbers(71)
	for range 500 {
		gens := n.generators(6, 4)
		var word []int
		for range n.between(0, 6) {
			word = append(word, one(&n, 1, -1)*n.between(1, len(gens)))
		}
		got, e := rotation.Evaluate(word, gens)
		what := fmt.Sprint("Evaluate of ", word, " in ", gens)
		wantResult(t, what, got, e, reduced(meaning(word, gens).quat()), api.OK)
	}
	gens := []api.Quat{whole(1, 1, 0, 0), half(1, 1, 1, 1)}
	long := slices.Repeat([]int{1, 2, -1}, 20)
	got, e := rotation.Evaluate(long, gens)
	wantResult(t, "Evaluate of 60 letters", got, e, reduced(meaning([]int{1, 2, 2, -1}, gens).quat()), api.OK)
	wantError(t, "Evaluate of 61 letters", api.ErrRange, all(rotation.Evaluate(append(long, 1), gens))...)
	wantError(t, "Evaluate of 61 letters, some of them none", api.ErrRange, all(rotation.Evaluate(append(long, 7), gens))...)
	for _, l := range []int{0, 3, -3, 4, 7, least, greatest, least + 1} {
		wantError(t, fmt.Sprint("the letter ", l), api.ErrMissing, all(rotation.Evaluate([]int{1, l}, gens))...)
		wantError(t, fmt.Sprint("the letter ", l), api.ErrMissing, all(rotation.Evaluate([]int{l}, gens[:1]))...)
		wantError(t, fmt.Sprint("the letter ", l, " behind large products"), api.ErrMissing, all(rotation.Evaluate([]int{1, 1, 1, 1, l}, []api.Quat{whole(1000, 1, 0, 0)}))...)
	}
	wantError(t, "the letter 2 of one generator", api.ErrMissing, all(rotation.Evaluate([]int{2}, gens[:1]))...)
	wantError(t, "the letter -2 of one generator", api.ErrMissing, all(rotation.Evaluate([]int{-2}, gens[:1]))...)
	wantError(t, "a large beginning", api.ErrLarge, all(rotation.Evaluate([]int{1, 1, 1, -1, -1, -1}, []api.Quat{whole(1000, 1, 0, 0)}))...)
	got, e = rotation.Evaluate(nil, gens)
	wantResult(t, "Evaluate of the empty word", got, e, whole(1, 0, 0, 0), api.OK)
}

// closure has all products of the reduced quaternions, or none if there are more than most.
func closure(gens []api.Quat, most int) []api.Quat {
	list := []api.Quat{whole(1, 0, 0, 0)}
	for i := 0; i < len(list); i++ {
		for _, g := range gens {
			if p := reduced(product(list[i], reduced(g))); !slices.Contains(list, p) {
				list = append(list, p)
			}
		}
		if len(list) > most {
			return nil
		}
	}
	slices.SortFunc(list, ascending)
	return list
}

func TestGroup(t *testing.T) {
	got, e := rotation.Group([]api.Quat{whole(1, 1, 0, 0)}, 60)
	wantResult(t, "the quarter turns", got, e, []api.Quat{whole(0, 1, 0, 0), whole(1, -1, 0, 0), whole(1, 0, 0, 0), whole(1, 1, 0, 0)}, api.OK)
	for _, x := range []struct {
		gens []api.Quat
		size int
	}{
		{[]api.Quat{over(3, -5, 0, 0, 0)}, 1},
		{[]api.Quat{whole(0, 3, 4, 12)}, 2},
		{[]api.Quat{half(1, 1, 1, 1)}, 3},
		{[]api.Quat{whole(0, 1, 0, 0), whole(0, 0, 0, 9)}, 4},
		{[]api.Quat{whole(3, 1, 1, 1)}, 6},
		{[]api.Quat{half(1, 1, 1, 1), whole(0, 1, -1, 0)}, 6},
		{[]api.Quat{whole(1, 1, 0, 0), whole(0, 0, 1, 0)}, 8},
		{[]api.Quat{whole(3, 1, 1, 1), whole(0, 1, -1, 0)}, 12},
		{[]api.Quat{half(1, 1, 1, 1), whole(0, 1, 0, 0)}, 12},
		{[]api.Quat{whole(1, 1, 0, 0), whole(1, 0, 1, 0)}, 24},
		{[]api.Quat{whole(1, 1, 0, 0), whole(0, 0, 1, 0), whole(0, 0, 0, 1), whole(1, 0, 1, 0), whole(1, 0, 0, 1), half(1, 1, 1, 1)}, 24},
	} {
		what := fmt.Sprint("Group of ", x.gens)
		wanted := closure(x.gens, 60)
		want(t, what+", how many", len(wanted), x.size)
		for _, most := range []int{1, x.size - 1, x.size, x.size + 1, 60} {
			if most < 1 {
				continue
			}
			group, e := rotation.Group(x.gens, most)
			if most < x.size {
				wantError(t, what, api.ErrLarge, group, e)
			} else {
				wantResult(t, what, group, e, wanted, api.OK)
			}
		}
		for _, most := range []int{0, 61, -1, least, greatest} {
			wantError(t, what, api.ErrRange, all(rotation.Group(x.gens, most))...)
		}
	}
}

func TestGroupsOfAnyGenerators(t *testing.T) {
	n := numbers(72)
	finite := 0
	for range 400 {
		gens := n.generators(2, 1)
		x := n.some(3)
		for i, g := range gens {
			gens[i] = reduced(of(x).times(of(g)).times(of(x).inverse()).quat())
		}
		wanted := closure(gens, 60)
		group, e := rotation.Group(gens, 60)
		what := fmt.Sprint("Group of ", gens)
		if wanted == nil {
			wantError(t, what, api.ErrLarge, group, e)
			continue
		}
		finite++
		wantResult(t, what, group, e, wanted, api.OK)
	}
	if finite < 200 {
		t.Errorf("only %d finite groups", finite)
	}
}
