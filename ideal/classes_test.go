package ideal_test

import (
	"fmt"
	"math/big"
	"slices"
	"testing"

	"fourfold/api"
	"fourfold/ideal"
	"fourfold/integer"
	"fourfold/lattice"
	"fourfold/order"
)

// The tests of this file are those of P5.6.

func TestMass(t *testing.T) {
	for _, x := range []struct {
		disc, level int
		mass        api.Frac
		e           api.Errno
	}{
		{2, 1, api.Frac{Num: 1, Den: 24}, api.OK}, {11, 1, api.Frac{Num: 5, Den: 12}, api.OK}, {2, 3, api.Frac{Num: 1, Den: 6}, api.OK}, {3, 2, api.Frac{Num: 1, Den: 4}, api.OK}, {13, 1, api.Frac{Num: 1, Den: 2}, api.OK}, {30, 1, api.Frac{Num: 1, Den: 3}, api.OK}, {42, 5, api.Frac{Num: 3, Den: 1}, api.OK},
		{1999, 1, api.Frac{Num: 333, Den: 4}, api.OK}, {2, 997, api.Frac{Num: 499, Den: 12}, api.OK}, {30, 61, api.Frac{Num: 62, Den: 3}, api.OK}, {1993, 1, api.Frac{Num: 83, Den: 1}, api.OK}, {5, 399, api.Frac{Num: 320, Den: 3}, api.OK},
		{0, 1, api.Frac{}, api.ErrRange}, {1, 0, api.Frac{}, api.ErrRange}, {-2, 1, api.Frac{}, api.ErrRange}, {-2, -3, api.Frac{}, api.ErrRange}, {2001, 1, api.Frac{}, api.ErrRange}, {2, 1001, api.Frac{}, api.ErrRange}, {1, 2001, api.Frac{}, api.ErrRange}, {least, least, api.Frac{}, api.ErrRange}, {greatest, 2, api.Frac{}, api.ErrRange}, {1 << 32, 1 << 32, api.Frac{}, api.ErrRange}, {3, 6148914691236517206, api.Frac{}, api.ErrRange},
		{4, 1, api.Frac{}, api.ErrForm}, {2, 2, api.Frac{}, api.ErrForm}, {2, 9, api.Frac{}, api.ErrForm}, {1, 4, api.Frac{}, api.ErrForm}, {36, 1, api.Frac{}, api.ErrForm}, {6, 3, api.Frac{}, api.ErrForm}, {2, 1000, api.Frac{}, api.ErrForm}, {1, 2000, api.Frac{}, api.ErrForm}, {2000, 1, api.Frac{}, api.ErrForm},
		{1, 1, api.Frac{}, api.ErrDefinite}, {6, 1, api.Frac{}, api.ErrDefinite}, {1, 1999, api.Frac{}, api.ErrDefinite}, {210, 1, api.Frac{}, api.ErrDefinite}, {15, 2, api.Frac{}, api.ErrDefinite},
	} {
		mass, e := ideal.Mass(x.disc, x.level)
		wantResult(t, fmt.Sprint("Mass ", x.disc, x.level), mass, e, x.mass, x.e)
	}
}

// character is the symbol of -3 or -4 at the prime p: whether it is a square, 0 if p divides it.
func character(d, p int) int {
	switch {
	case d%p == 0:
		return 0
	case p == 2: // -3 is 5 modulo 8
		return -1
	}
	symbol, _ := integer.Legendre(d, p)
	return symbol
}

// classNumber is the number of classes by Eichler's formula.
func classNumber(disc, level int) int {
	mass, fours, threes := 1, 1, 1
	ofDisc, _ := integer.Factor(disc)
	for _, f := range ofDisc {
		mass, fours, threes = mass*(f.Prime-1), fours*(1-character(-4, f.Prime)), threes*(1-character(-3, f.Prime))
	}
	ofLevel, _ := integer.Factor(level)
	for _, f := range ofLevel {
		mass, fours, threes = mass*(f.Prime+1), fours*(1+character(-4, f.Prime)), threes*(1+character(-3, f.Prime))
	}
	return (mass + 3*fours + 4*threes) / 12
}

// wantClassSet checks a class set by what it is said to be.
func wantClassSet(t *testing.T, a api.Algebra, o api.Lattice, c api.Classes) {
	t.Helper()
	what := fmt.Sprint("the class set ", a, o)
	disc := discriminant(t, a)
	level := made[int](t)(order.Level(a, o))
	normal := made[api.Lattice](t)(lattice.Normal(o))
	wantResult(t, what, c.Order, api.OK, normal, api.OK)
	want(t, what, c.Disc, disc)
	want(t, what, c.Level, level)
	want(t, what, len(c.Ideals), classNumber(disc, level))
	want(t, what, len(c.Units), len(c.Ideals))
	wantResult(t, what, c.Ideals[0], api.OK, normal, api.OK)
	sum := rat(0, 1)
	for n, l := range c.Ideals {
		want(t, what+" in normal form", compare(l, slowRows(l).lattice()), 0)
		want(t, what+" with its right order", rightOrder(a, slowRows(l)).isSame(slowRows(o)), true)
		left := leftOrder(a, slowRows(l))
		if isFew(a, left, 1) {
			want(t, what+" with its units", len(slowElements(a, left, rat(1, 1))), c.Units[n])
		}
		sum.Add(sum, rat(1, c.Units[n]))
	}
	mass := made[api.Frac](t)(ideal.Mass(disc, level))
	want(t, what+" with its mass", sum.Cmp(rat(mass.Num, mass.Den)), 0)
	want(t, what+" as a proof", ideal.CheckClasses(a, c), api.OK)
}

// wantDifferent checks that no two ideals of a class set are equivalent, where this takes little time.
func wantDifferent(t *testing.T, a api.Algebra, c api.Classes) {
	t.Helper()
	for n, l := range c.Ideals {
		for _, m := range c.Ideals[:n] {
			if isFew(a, into(a, slowRows(l), slowRows(m)), 1) && len(slowMaps(a, slowRows(l), slowRows(m))) > 0 {
				t.Errorf("class set %v: %v and %v", a, l, m)
			}
		}
	}
}

// definiteOnes are algebras with their discriminants.
var definiteOnes = []struct {
	a    api.Algebra
	disc int
}{
	{hamilton, 2}, {api.Algebra{A: -1, B: -3}, 3}, {api.Algebra{A: -2, B: -5}, 5}, {api.Algebra{A: -1, B: -7}, 7}, {eleven, 11}, {api.Algebra{A: -2, B: -13}, 13}, {api.Algebra{A: -3, B: -17}, 17}, {api.Algebra{A: -1, B: -23}, 23}, {api.Algebra{A: -3, B: -10}, 30}, {api.Algebra{A: -2, B: -37}, 37},
	{api.Algebra{A: -1, B: -21}, 42}, {api.Algebra{A: -2, B: -61}, 61}, {api.Algebra{A: -3, B: -22}, 66}, {api.Algebra{A: -1, B: -67}, 67}, {api.Algebra{A: -7, B: -73}, 73}, {api.Algebra{A: -7, B: -97}, 97}, {api.Algebra{A: -3, B: -34}, 102}, {api.Algebra{A: -15, B: -22}, 165}, {api.Algebra{A: -1, B: -359}, 359},
}

func TestClassSets(t *testing.T) {
	n := numbers(40)
	for _, x := range definiteOnes {
		want(t, fmt.Sprint("the discriminant of ", x.a), discriminant(t, x.a), x.disc)
		for _, level := range []int{1, 2, 3, 5, 6, 7, 11, 14, 15, 30} {
			if g, _, _, _ := integer.Bezout(x.disc, level); g != 1 || x.disc*level > 400 || classNumber(x.disc, level) > api.MaxClasses {
				continue
			}
			o := eichler(t, x.a, level)
			c, e := ideal.ClassSet(x.a, n.rewritten(o))
			want(t, fmt.Sprint("ClassSet ", x.a, level), e, api.OK)
			wantClassSet(t, x.a, o, c)
			if len(c.Ideals) < 8 {
				wantDifferent(t, x.a, c)
			}
		}
	}
}

func TestClassSetsWithGreatNumbers(t *testing.T) {
	n := numbers(41)
	great := 0
	for range 60 {
		a := []api.Algebra{hamilton, eleven, {A: -3, B: -10}, {A: -701, B: -601}, {A: -997, B: -1000}, {A: -2, B: -37}, {A: -6, B: -13}}[n.between(0, 6)]
		o := maximal(t, a)
		disc := discriminant(t, a)
		if level := []int{1, 3, 7}[n.between(0, 2)]; disc%level != 0 {
			if smaller, e := order.Eichler(a, o, level); e == api.OK {
				o = smaller
			}
		}
		turned, e := order.Conjugate(a, o, n.quat(9, 1))
		if e != api.OK {
			continue
		}
		if turned.Rows[3][3] > 20000 {
			great++
		}
		c, e := ideal.ClassSet(a, turned)
		want(t, fmt.Sprint("ClassSet ", a, turned), e, api.OK)
		if e == api.OK {
			wantClassSet(t, a, turned, c)
		}
	}
	if great < 15 {
		t.Errorf("only %d orders with great numbers", great)
	}
}

func TestClassSetsThatAreLarge(t *testing.T) {
	// 60 classes, the most that there may be.
	o := eichler(t, hamilton, 719)
	c, e := ideal.ClassSet(hamilton, o)
	want(t, "ClassSet with 60 classes", e, api.OK)
	want(t, "the number of classes", len(c.Ideals), api.MaxClasses)
	want(t, "the class set with 60 classes", ideal.CheckClasses(hamilton, c), api.OK)
	for _, x := range []struct {
		a     api.Algebra
		level int
		count int
	}{{api.Algebra{A: -1, B: -719}, 1, 61}, {api.Algebra{A: -1, B: -727}, 1, 61}, {hamilton, 727, 62}, {api.Algebra{A: -991, B: -983}, 1, 83}, {hamilton, 997, 85}, {eleven, 181, 154}} {
		want(t, "the number of classes", classNumber(discriminant(t, x.a), x.level), x.count)
		c, e := ideal.ClassSet(x.a, eichler(t, x.a, x.level))
		wantError(t, fmt.Sprint("ClassSet ", x.a, x.level), api.ErrLarge, c, e)
	}
	// Here the discriminant is too great, though there are few classes.
	for _, x := range []struct {
		a     api.Algebra
		level int
	}{{api.Algebra{A: -22, B: -210}, 1}, {api.Algebra{A: -3, B: -10}, 71}} {
		o := eichler(t, x.a, x.level)
		disc := discriminant(t, x.a)
		want(t, "the number of classes", disc*x.level > api.MaxLevel && classNumber(disc, x.level) < api.MaxClasses, true)
		c, e := ideal.ClassSet(x.a, o)
		wantError(t, fmt.Sprint("ClassSet ", x.a, x.level), api.ErrLarge, c, e)
		want(t, "CheckClasses", ideal.CheckClasses(x.a, api.Classes{Order: o, Disc: disc, Level: x.level}), api.ErrLarge)
	}
}

func TestErrorsOfClassSet(t *testing.T) {
	for _, x := range []struct {
		a api.Algebra
		o api.Lattice
		e api.Errno
	}{
		{api.Algebra{}, api.Lattice{}, api.ErrZero}, {api.Algebra{A: 1, B: -1001}, api.Lattice{}, api.ErrRange}, {six, api.Lattice{}, api.ErrDefinite}, {six, lipschitz, api.ErrDefinite}, {matrices, hurwitz, api.ErrDefinite}, {api.Algebra{A: 1, B: -1}, hurwitz, api.ErrDefinite},
		{hamilton, api.Lattice{}, api.ErrRange}, {hamilton, api.Lattice{Dim: 4, Den: 1}, api.ErrShape}, {hamilton, of(coord+1, lipschitzRows()...), api.ErrLarge}, {hamilton, of(2, lipschitzRows()...), api.ErrOrder},
		{hamilton, of(1, [4]int{1, 0, 0, 0}, [4]int{0, 630, 0, 0}, [4]int{0, 0, 630, 0}, [4]int{0, 0, 0, 630}), api.ErrLarge},
		{hamilton, lipschitz, api.ErrOrder}, {eleven, lipschitz, api.ErrOrder}, {hamilton, of(1, [4]int{1, 0, 0, 0}, [4]int{0, 600, 0, 0}, [4]int{0, 0, 600, 0}, [4]int{0, 0, 0, 600}), api.ErrOrder},
		{hamilton, eichler(t, hamilton, 1003), api.ErrLarge}, {hamilton, eichler(t, hamilton, 1999), api.ErrLarge},
	} {
		c, e := ideal.ClassSet(x.a, x.o)
		wantError(t, fmt.Sprint("ClassSet ", x.a, x.o), x.e, c, e)
		want(t, fmt.Sprint("CheckClasses ", x.a, x.o), ideal.CheckClasses(x.a, api.Classes{Order: x.o}), x.e)
		number, q, e := ideal.ClassOf(x.a, api.Classes{Order: x.o}, api.Lattice{})
		wantError(t, fmt.Sprint("ClassOf ", x.a, x.o), x.e, number, q, e)
		types, e := ideal.Types(x.a, api.Classes{Order: x.o})
		wantError(t, fmt.Sprint("Types ", x.a, x.o), x.e, types, e)
	}
}

// copied is the same class set in other memory.
func copied(c api.Classes) api.Classes {
	c.Ideals, c.Units = slices.Clone(c.Ideals), slices.Clone(c.Units)
	return c
}

// moved is a lattice times an element.
func moved(t *testing.T, a api.Algebra, x api.Quat, l api.Lattice) api.Lattice {
	t.Helper()
	return made[api.Lattice](t)(ideal.Times(a, x, l))
}

// changes make of a class set with more than one class one that is none.
var changes = map[string]func(t *testing.T, a api.Algebra, c *api.Classes){
	"another discriminant":    func(_ *testing.T, _ api.Algebra, c *api.Classes) { c.Disc++ },
	"a negative discriminant": func(_ *testing.T, _ api.Algebra, c *api.Classes) { c.Disc = -c.Disc },
	"another level":           func(_ *testing.T, _ api.Algebra, c *api.Classes) { c.Level *= 2 },
	"no level":                func(_ *testing.T, _ api.Algebra, c *api.Classes) { c.Level = 0 },
	"discriminant and level exchanged": func(_ *testing.T, _ api.Algebra, c *api.Classes) {
		c.Disc, c.Level = c.Level, c.Disc
	},
	"one unit more":   func(_ *testing.T, _ api.Algebra, c *api.Classes) { c.Units[len(c.Units)-1]++ },
	"no units":        func(_ *testing.T, _ api.Algebra, c *api.Classes) { c.Units[0] = 0 },
	"an opposite":     func(_ *testing.T, _ api.Algebra, c *api.Classes) { c.Units[1] = -c.Units[1] },
	"one ideal less":  func(_ *testing.T, _ api.Algebra, c *api.Classes) { c.Ideals, c.Units = c.Ideals[1:], c.Units[1:] },
	"not the last":    func(_ *testing.T, _ api.Algebra, c *api.Classes) { drop(c, len(c.Ideals)-1) },
	"no ideals":       func(_ *testing.T, _ api.Algebra, c *api.Classes) { c.Ideals, c.Units = nil, nil },
	"the first again": func(_ *testing.T, _ api.Algebra, c *api.Classes) { add(c, c.Ideals[0], c.Units[0]) },
	"an ideal twice": func(t *testing.T, a api.Algebra, c *api.Classes) {
		add(c, moved(t, a, api.Quat{W: 1, Y: 2, Den: 3}, c.Ideals[1]), c.Units[1])
	},
	"an equivalent ideal for another one": func(t *testing.T, a api.Algebra, c *api.Classes) {
		last := len(c.Ideals) - 1
		c.Ideals[last], c.Units[last] = moved(t, a, api.Quat{X: 1, Z: 1, Den: 1}, c.Ideals[0]), c.Units[0]
	},
	"another ideal first": func(_ *testing.T, _ api.Algebra, c *api.Classes) {
		c.Ideals[0], c.Ideals[1] = c.Ideals[1], c.Ideals[0]
		c.Units[0], c.Units[1] = c.Units[1], c.Units[0]
	},
	"a multiple first": func(t *testing.T, a api.Algebra, c *api.Classes) {
		c.Ideals[0] = moved(t, a, api.Quat{W: 2, Den: 1}, c.Ideals[0])
	},
	"a left ideal": func(t *testing.T, a api.Algebra, c *api.Classes) {
		c.Ideals[1] = made[api.Lattice](t)(ideal.Conjugate(a, c.Ideals[1]))
	},
	"a smaller lattice": func(t *testing.T, a api.Algebra, c *api.Classes) {
		c.Ideals[1] = made[[]api.Lattice](t)(lattice.Sublattices(c.Ideals[1], 2))[0]
	},
}

func drop(c *api.Classes, n int) {
	c.Ideals, c.Units = slices.Delete(c.Ideals, n, n+1), slices.Delete(c.Units, n, n+1)
}

func add(c *api.Classes, l api.Lattice, units int) {
	c.Ideals, c.Units = append(c.Ideals, l), append(c.Units, units)
}

func TestProofsThatAreRefused(t *testing.T) {
	for _, x := range []struct {
		a     api.Algebra
		level int
	}{{eleven, 1}, {hamilton, 13}, {api.Algebra{A: -1, B: -7}, 3}, {api.Algebra{A: -2, B: -37}, 1}} {
		c := made[api.Classes](t)(ideal.ClassSet(x.a, eichler(t, x.a, x.level)))
		want(t, fmt.Sprint("CheckClasses ", x.a, c), ideal.CheckClasses(x.a, c), api.OK)
		for name, change := range changes {
			d := copied(c)
			change(t, x.a, &d)
			what := fmt.Sprint(" with ", name, " ", x.a, x.level)
			want(t, "CheckClasses"+what, ideal.CheckClasses(x.a, d), api.ErrProof)
			number, q, e := ideal.ClassOf(x.a, d, api.Lattice{})
			wantError(t, "ClassOf"+what, api.ErrProof, number, q, e)
			types, e := ideal.Types(x.a, d)
			wantError(t, "Types"+what, api.ErrProof, types, e)
		}
	}
}

func TestErrorsOfCheckClasses(t *testing.T) {
	c := made[api.Classes](t)(ideal.ClassSet(eleven, maximal(t, eleven)))
	bad := []struct {
		l api.Lattice
		e api.Errno
	}{
		{api.Lattice{}, api.ErrRange}, {api.Lattice{Dim: 4, Den: 1}, api.ErrShape}, {api.Lattice{Dim: 3, Rows: [][]int{{1, 0, 0}}, Den: 1}, api.ErrShape}, {of(coord+1, lipschitzRows()...), api.ErrLarge},
	}
	for n, x := range bad {
		for place := range c.Ideals {
			d := copied(c)
			d.Disc = 5 // this error comes behind
			d.Ideals[place] = x.l
			add(&d, bad[(n+1)%len(bad)].l, 1)
			want(t, fmt.Sprint("CheckClasses with ", x.l), ideal.CheckClasses(eleven, d), x.e)
			d.Units = d.Units[1:]
			want(t, fmt.Sprint("CheckClasses with fewer units and ", x.l), ideal.CheckClasses(eleven, d), api.ErrShape)
		}
	}
	many := api.Classes{Order: c.Order, Disc: 11, Level: 1, Ideals: make([]api.Lattice, 61), Units: make([]int, 61)}
	want(t, "CheckClasses with 61 ideals", ideal.CheckClasses(eleven, many), api.ErrLarge)
	want(t, "CheckClasses with 60 ideals", ideal.CheckClasses(eleven, api.Classes{Order: c.Order, Ideals: make([]api.Lattice, 60), Units: make([]int, 60)}), api.ErrRange)
	many.Units = nil
	want(t, "CheckClasses with 61 ideals without units", ideal.CheckClasses(eleven, many), api.ErrShape)
	great := eichler(t, hamilton, 1003)
	want(t, "CheckClasses of an order with a great discriminant", ideal.CheckClasses(hamilton, api.Classes{Order: great, Disc: 2, Level: 1003, Ideals: make([]api.Lattice, 1), Units: []int{1}}), api.ErrLarge)
	want(t, "CheckClasses of such an order without units", ideal.CheckClasses(hamilton, api.Classes{Order: great, Ideals: make([]api.Lattice, 1)}), api.ErrShape)
	d := copied(c)
	d.Order = made[api.Lattice](t)(order.Conjugate(eleven, c.Order, api.Quat{W: 1, X: 1, Y: 1, Den: 1}))
	want(t, "CheckClasses with a conjugate order", ideal.CheckClasses(eleven, d), api.ErrProof)
}

func TestOtherClassSets(t *testing.T) {
	n := numbers(42)
	for _, x := range []struct {
		a     api.Algebra
		level int
	}{{eleven, 1}, {hamilton, 13}, {api.Algebra{A: -2, B: -37}, 1}, {api.Algebra{A: -1, B: -67}, 1}, {api.Algebra{A: -3, B: -10}, 7}} {
		c := made[api.Classes](t)(ideal.ClassSet(x.a, eichler(t, x.a, x.level)))
		for range 5 {
			d := copied(c)
			d.Order = n.rewritten(c.Order)
			d.Ideals[0] = n.rewritten(c.Order)
			for place := len(c.Ideals) - 1; place > 0; place-- { // in another order, and scaled
				from := n.between(1, place)
				d.Ideals[place], d.Ideals[from] = d.Ideals[from], d.Ideals[place]
				d.Units[place], d.Units[from] = d.Units[from], d.Units[place]
				q := n.quat(4, 3)
				q.W += 9
				d.Ideals[place] = n.rewritten(moved(t, x.a, q, d.Ideals[place]))
			}
			want(t, fmt.Sprint("CheckClasses ", x.a, d), ideal.CheckClasses(x.a, d), api.OK)
		}
	}
}

func TestClassOf(t *testing.T) {
	n := numbers(43)
	for _, x := range []struct {
		a     api.Algebra
		level int
	}{{eleven, 1}, {hamilton, 13}, {api.Algebra{A: -1, B: -23}, 1}, {api.Algebra{A: -2, B: -37}, 3}, {api.Algebra{A: -3, B: -10}, 1}} {
		c := made[api.Classes](t)(ideal.ClassSet(x.a, eichler(t, x.a, x.level)))
		for range 25 {
			number := n.between(0, len(c.Ideals)-1)
			q := n.quat(5, 3)
			q.W += 6
			l := moved(t, x.a, q, c.Ideals[number])
			found, y, e := ideal.ClassOf(x.a, c, n.rewritten(l))
			what := fmt.Sprint("ClassOf ", x.a, l)
			want(t, what, found, number)
			maps := made[[]api.Quat](t)(ideal.Maps(x.a, l, c.Ideals[number]))
			wantResult(t, what, y, e, maps[0], api.OK)
			want(t, what, compareSlow(slowOf(y), slowOf(q)) <= 0, true)
			want(t, what, grid(products(x.a, []slow{slowOf(y)}, slowRows(c.Ideals[number]))).isSame(slowRows(l)), true)
			if isFew(x.a, into(x.a, slowRows(l), slowRows(c.Ideals[number])), 1) {
				first, _ := slowMaps(x.a, slowRows(l), slowRows(c.Ideals[number]))[0].quat()
				want(t, what, y, first)
			}
		}
		for _, l := range made[[]api.Lattice](t)(ideal.OfNorm(x.a, c.Ideals[1], 49)) {
			found, y, e := ideal.ClassOf(x.a, c, l)
			want(t, fmt.Sprint("ClassOf ", x.a, l), e, api.OK)
			want(t, fmt.Sprint("the map onto ", l), grid(products(x.a, []slow{slowOf(y)}, slowRows(c.Ideals[found]))).isSame(slowRows(l)), true)
		}
	}
}

func TestErrorsOfClassOf(t *testing.T) {
	c := made[api.Classes](t)(ideal.ClassSet(hamilton, hurwitz))
	tiny := api.Classes{Order: hurwitz, Disc: 2, Level: 1, Ideals: []api.Lattice{hurwitz}, Units: []int{24}}
	wantResult(t, "ClassSet of Hurwitz", c, api.OK, tiny, api.OK)
	for _, x := range []struct {
		l api.Lattice
		e api.Errno
	}{
		{api.Lattice{}, api.ErrRange}, {api.Lattice{Dim: 4, Den: 1}, api.ErrShape}, {of(coord+1, lipschitzRows()...), api.ErrLarge}, {lipschitz, api.ErrIdeal}, {grid(products(hamilton, slowRows(hurwitz), []slow{slowOf(api.Quat{W: 2, X: 1, Den: 1})})).lattice(), api.ErrIdeal},
	} {
		number, q, e := ideal.ClassOf(hamilton, c, x.l)
		wantError(t, fmt.Sprint("ClassOf ", x.l), x.e, number, q, e)
	}
	number, q, e := ideal.ClassOf(hamilton, c, hurwitz)
	want(t, "ClassOf of the order", number, 0)
	wantResult(t, "ClassOf of the order", q, e, api.Quat{W: -1, Den: 1}, api.OK)
	// The maps between the second ideal and a lattice with great numbers do not fit.
	d := made[api.Classes](t)(ideal.ClassSet(eleven, maximal(t, eleven)))
	d.Ideals[1] = moved(t, eleven, api.Quat{W: 1, Den: 40000}, d.Ideals[1])
	great := moved(t, eleven, api.Quat{W: 200, Den: 1}, d.Ideals[1])
	number, q, e = ideal.ClassOf(eleven, d, great)
	want(t, "ClassOf with great numbers", e, api.OK)
	want(t, "ClassOf with great numbers", number, 1)
	want(t, "the map", new(big.Rat).Abs(slowOf(q)[0]).Cmp(rat(200, 1)) <= 0, true)
	great = moved(t, eleven, api.Quat{W: 40000, X: 40000 * 2, Den: 1}, d.Ideals[1])
	great = moved(t, eleven, api.Quat{W: 400, Den: 1}, great)
	number, q, e = ideal.ClassOf(eleven, d, great)
	wantError(t, "ClassOf with maps that are too large", api.ErrLarge, number, q, e)
}
