package brandt_test

import (
	"fmt"
	"math/big"
	"slices"
	"testing"

	"fourfold/api"
	"fourfold/brandt"
)

// The tests of this file are those of P8.4.

// root is the root of a square, or its opposite.
type root struct {
	sign   int
	square *big.Rat
}

// compare is the sign of the root less x.
func (r root) compare(x *big.Rat) int {
	s := x.Sign()
	if s != r.sign {
		return r.sign - s
	}
	return s * r.square.Cmp(new(big.Rat).Mul(x, x))
}

// order orders roots.
func (r root) order(s root) int {
	if r.sign != s.sign {
		return r.sign - s.sign
	}
	return r.sign * r.square.Cmp(s.square)
}

// ceiling is the least integer that is at least the root times den.
func (r root) ceiling(den int) *big.Int {
	x := new(big.Rat).Mul(r.square, rat(den*den, 1))
	n := new(big.Int).Sqrt(new(big.Int).Div(x.Num(), x.Denom()))
	if r.sign < 0 {
		return n.Neg(n)
	}
	if new(big.Rat).SetInt(new(big.Int).Mul(n, n)).Cmp(x) < 0 {
		n.Add(n, big.NewInt(1))
	}
	return n
}

// rooted is a polynomial whose different real roots are known, ascending.
type rooted struct {
	p     poly
	roots []root
}

// add multiplies by a polynomial, power times, that has these roots.
func (x *rooted) add(q poly, power int, roots ...root) {
	for range power {
		x.p = x.p.times(q)
	}
	for _, r := range roots {
		if !slices.ContainsFunc(x.roots, func(s root) bool { return r.order(s) == 0 }) {
			x.roots = append(x.roots, r)
		}
	}
	slices.SortFunc(x.roots, root.order)
}

// rational multiplies by a power of den x - num.
func (x *rooted) rational(num, den, power int) {
	r := rat(num, den)
	x.add(poly{new(big.Rat).SetInt(new(big.Int).Neg(r.Num())), new(big.Rat).SetInt(r.Denom())}, power, root{r.Sign(), new(big.Rat).Mul(r, r)})
}

// pair multiplies by a power of den x^2 - num, for positive num.
func (x *rooted) pair(num, den, power int) {
	r := rat(num, den)
	x.add(poly{new(big.Rat).SetInt(new(big.Int).Neg(r.Num())), rat(0, 1), new(big.Rat).SetInt(r.Denom())}, power, root{-1, r}, root{1, r})
}

// rooted is a polynomial with some roots.
func (n *numbers) rooted(most int) rooted {
	x := rooted{p: polyOf(one(n, 1, -1, 6, -10))}
	for range n.between(0, 5) {
		switch n.between(0, 3) {
		case 0:
			x.rational(n.between(-most, most), n.between(1, 12), n.between(1, 3))
		case 1:
			x.pair(n.between(1, most), n.between(1, 12), n.between(1, 3))
		case 2:
			x.rational(n.between(-most, most), 1, 1)
		case 3: // without real roots
			b := n.between(-3, 3)
			x.add(polyOf(b*b+n.between(1, 9), 2*b, 1), n.between(1, 2))
		}
	}
	return x
}

// between is the number of the roots in an interval.
func (x rooted) between(lo, hi *big.Rat) int {
	count := 0
	for _, r := range x.roots {
		if r.compare(lo) > 0 && r.compare(hi) <= 0 {
			count++
		}
	}
	return count
}

// enclosures are all intervals between multiples of 1 / den with roots.
func (x rooted) enclosures(den int) []api.Enclosure {
	var list []api.Enclosure
	for _, r := range x.roots {
		end := r.ceiling(den)
		hi := new(big.Rat).SetFrac(end, big.NewInt(int64(den)))
		lo := new(big.Rat).Sub(hi, rat(1, den))
		if k := len(list) - 1; k >= 0 && list[k].Hi == frac(hi) {
			list[k].Count++
		} else {
			list = append(list, api.Enclosure{Lo: frac(lo), Hi: frac(hi), Count: 1})
		}
	}
	return list
}

func TestBetween(t *testing.T) {
	n := numbers(110)
	seen := map[int]int{}
	for range 200 {
		x := n.rooted(one(&n, 2, 9, 500))
		for range 6 {
			ends := []api.Frac{{Num: n.between(-30, 30), Den: n.between(1, 12)}, {Num: n.between(-30, 30), Den: n.between(1, 12)}}
			for i, r := range x.roots {
				if s := r.ceiling(1).Int64(); n.between(0, 2) == 0 && r.compare(rat(int(s), 1)) == 0 {
					ends[i%2] = api.Frac{Num: 3 * int(s), Den: 3} // at a root
				}
			}
			slices.SortFunc(ends, func(a, b api.Frac) int { return rat(a.Num, a.Den).Cmp(rat(b.Num, b.Den)) })
			wanted := x.between(rat(ends[0].Num, ends[0].Den), rat(ends[1].Num, ends[1].Den))
			seen[wanted]++
			count, e := brandt.Between(x.p.ints(), ends[0], ends[1])
			wantResult(t, fmt.Sprint("Between ", x.p, ends), count, e, wanted, api.OK)
		}
		count, e := brandt.Between(x.p.ints(), api.Frac{Num: -billion, Den: 1}, api.Frac{Num: billion, Den: 1})
		wantResult(t, fmt.Sprint("the number of roots of ", x.p), count, e, len(x.roots), api.OK)
	}
	for k := range 4 {
		want(t, fmt.Sprint("many intervals with ", k, " roots"), seen[k] > 10, true)
	}
	p := polyOf(-2, 0, 1).ints()
	for _, x := range []struct {
		lo, hi api.Frac
		count  int
		e      api.Errno
	}{
		{api.Frac{Num: 0, Den: 1}, api.Frac{Num: 2, Den: 1}, 1, api.OK}, {api.Frac{Num: -2, Den: 1}, api.Frac{Num: 2, Den: 1}, 2, api.OK}, {api.Frac{Num: 2, Den: 1}, api.Frac{Num: 2, Den: 1}, 0, api.OK}, {api.Frac{Num: 4, Den: 2}, api.Frac{Num: 2, Den: 1}, 0, api.OK},
		{api.Frac{Num: 2, Den: 1}, api.Frac{Num: 0, Den: 1}, 0, api.ErrOrder}, {api.Frac{Num: 1, Den: 2}, api.Frac{Num: 499999999, Den: billion}, 0, api.ErrOrder}, {api.Frac{Num: billion, Den: 1}, api.Frac{Num: -billion, Den: 1}, 0, api.ErrOrder}, {api.Frac{Num: 0, Den: billion}, api.Frac{Num: -1, Den: billion}, 0, api.ErrOrder},
	} {
		count, e := brandt.Between(p, x.lo, x.hi)
		wantResult(t, fmt.Sprint("Between ", x.lo, x.hi), count, e, x.count, x.e)
	}
}

func TestEnclose(t *testing.T) {
	n := numbers(111)
	for range 250 {
		x := n.rooted(one(&n, 2, 9, 500, million))
		den := one(&n, 1, 2, 3, 7, 10, 12, 100, 997, 1000)
		list, e := brandt.Enclose(x.p.ints(), den)
		wanted := x.enclosures(den)
		wantResult(t, fmt.Sprint("Enclose ", x.p, den), list, e, wanted, api.OK)
		want(t, fmt.Sprint("CheckEnclosures ", x.p, wanted), brandt.CheckEnclosures(x.p.ints(), wanted), api.OK)
	}
	list, e := brandt.Enclose(polyOf(-2, 0, 1).ints(), 10)
	wantResult(t, "Enclose of x^2 - 2", list, e, []api.Enclosure{{Lo: api.Frac{Num: -3, Den: 2}, Hi: api.Frac{Num: -7, Den: 5}, Count: 1}, {Lo: api.Frac{Num: 7, Den: 5}, Hi: api.Frac{Num: 3, Den: 2}, Count: 1}}, api.OK)
	for _, p := range []poly{polyOf(1), polyOf(-7), polyOf(1, 0, 1), polyOf(1, 1, 1, 1, 1)} {
		list, e := brandt.Enclose(p.ints(), 1000)
		wantResult(t, fmt.Sprint("Enclose ", p), list, e, []api.Enclosure(nil), api.OK)
	}
	for _, den := range []int{0, -1, 1001, least, greatest} {
		list, e := brandt.Enclose(polyOf(-million-1, 1).ints(), den) // whose root is too large, too
		wantError(t, fmt.Sprint("Enclose with the denominator ", den), api.ErrRange, list, e)
	}
}

func TestRootsNextToEachOther(t *testing.T) {
	for _, den := range []int{1, 10, 999, 1000} {
		var x rooted
		x.p = polyOf(1)
		for k := range 5 { // at, before and behind multiples, on both sides of 0
			x.rational(k-2, den, 1)
			x.rational(1000*(k-2)+1, 1000*den, 1)
			x.rational(1000*(k-2)-1, 1000*den, 1)
		}
		list, e := brandt.Enclose(x.p.ints(), den)
		wantResult(t, fmt.Sprint("Enclose ", x.p, den), list, e, x.enclosures(den), api.OK)
		want(t, "CheckEnclosures", brandt.CheckEnclosures(x.p.ints(), list), api.OK)
	}
	// Sixty roots.
	var x rooted
	x.p = polyOf(1)
	for k := range 60 {
		x.rational((k-30)*(k-25), 1+k%3, 1)
	}
	for _, den := range []int{1, 2, 1000} {
		list, e := brandt.Enclose(x.p.ints(), den)
		wantResult(t, fmt.Sprint("Enclose of many roots ", den), list, e, x.enclosures(den), api.OK)
	}
}

func TestGreatestRoots(t *testing.T) {
	for _, den := range []int{1, 2, 3, 1000} {
		for _, sign := range []int{1, -1} {
			for _, r := range []struct {
				num, den int
				large    bool
			}{{million, 1, false}, {million + 1, 1, true}, {million*1000 + 1, 1000, true}, {million*1000 - 1, 1000, false}, {million*100000 + 1, 100000, true}, {billion, 1, true}, {billion * billion, 1, true}} {
				x := rooted{p: polyOf(1)}
				x.rational(sign*r.num, r.den, 1)
				x.rational(3, 7, 2)
				list, e := brandt.Enclose(x.p.ints(), den)
				if what := fmt.Sprint("Enclose ", x.p, den); r.large {
					wantError(t, what, api.ErrLarge, list, e)
				} else {
					wantResult(t, what, list, e, x.enclosures(den), api.OK)
				}
			}
		}
		for _, more := range []int{-1, 0, 1} {
			x := rooted{p: polyOf(-1)}
			x.pair(million*million+more, 1, 1)
			list, e := brandt.Enclose(x.p.ints(), den)
			if what := fmt.Sprint("Enclose ", x.p, den); more > 0 {
				wantError(t, what, api.ErrLarge, list, e)
			} else {
				wantResult(t, what, list, e, x.enclosures(den), api.OK)
			}
		}
		x := rooted{p: polyOf(1)} // both ends
		x.rational(million, 1, 2)
		x.rational(-million, 1, 1)
		list, e := brandt.Enclose(x.p.ints(), den)
		wantResult(t, fmt.Sprint("Enclose ", x.p, den), list, e, x.enclosures(den), api.OK)
		want(t, "CheckEnclosures", brandt.CheckEnclosures(x.p.ints(), list), map[bool]api.Errno{true: api.OK, false: api.ErrLarge}[den < 1000])
	}
	// No real root is too large here, though complex ones are.
	list, e := brandt.Enclose(polyOf(billion*billion, 0, 1).ints(), 1)
	wantResult(t, "Enclose of large complex roots", list, e, []api.Enclosure(nil), api.OK)
}

// enclosure is an interval with a number of roots.
func enclosure(num, den, num2, den2, count int) api.Enclosure {
	return api.Enclosure{Lo: api.Frac{Num: num, Den: den}, Hi: api.Frac{Num: num2, Den: den2}, Count: count}
}

func TestCheckEnclosures(t *testing.T) {
	x := rooted{p: polyOf(3)}
	x.rational(1, 1, 2)
	x.pair(2, 1, 1)
	x.rational(5, 2, 1) // the roots are -1.41, 1, 1.41 and 2.5
	p := x.p.ints()
	for _, c := range []struct {
		list []api.Enclosure
		e    api.Errno
	}{
		{[]api.Enclosure{enclosure(-5, 1, 5, 1, 4)}, api.OK}, {[]api.Enclosure{enclosure(-3, 2, -7, 5, 1), enclosure(1, 2, 1, 1, 1), enclosure(1, 1, 5, 2, 2)}, api.OK}, {[]api.Enclosure{enclosure(-10, 2, 4, 4, 2), enclosure(2, 2, 9, 3, 2)}, api.OK}, {[]api.Enclosure{enclosure(-billion, 1, billion, 1, 4)}, api.OK},
		{[]api.Enclosure{enclosure(-2, 1, -1, 1, 1), enclosure(0, 1, 1, 1, 1), enclosure(1, 1, 2, 1, 1), enclosure(2, 1, 3, 1, 1)}, api.OK},
		{nil, api.ErrProof}, {[]api.Enclosure{enclosure(-5, 1, 5, 1, 3)}, api.ErrProof}, {[]api.Enclosure{enclosure(-5, 1, 5, 1, 5)}, api.ErrProof}, {[]api.Enclosure{enclosure(-5, 1, 2, 1, 3)}, api.ErrProof},
		{[]api.Enclosure{enclosure(-2, 1, -1, 1, 1), enclosure(0, 1, 2, 1, 1), enclosure(2, 1, 3, 1, 2)}, api.ErrProof},         // wrong counts, the right sum
		{[]api.Enclosure{enclosure(-2, 1, -1, 1, 1), enclosure(1, 1, 2, 1, 1), enclosure(2, 1, 3, 1, 1)}, api.ErrProof},         // 1 is missing
		{[]api.Enclosure{enclosure(-2, 1, -1, 1, 1), enclosure(-1, 1, 0, 1, 0), enclosure(0, 1, 3, 1, 3)}, api.ErrProof},        // an empty one
		{[]api.Enclosure{enclosure(0, 1, 3, 1, 3), enclosure(-2, 1, -1, 1, 1)}, api.ErrProof},                                   // descending
		{[]api.Enclosure{enclosure(-2, 1, 1, 1, 2), enclosure(0, 1, 1, 1, 1), enclosure(2, 1, 3, 1, 1)}, api.ErrProof},          // not disjoint
		{[]api.Enclosure{enclosure(-2, 1, 4, 5, 1), enclosure(3, 4, 3, 1, 3)}, api.ErrProof},                                    // not disjoint, with the right sum
		{[]api.Enclosure{enclosure(5, 1, -5, 1, -4)}, api.ErrProof}, {[]api.Enclosure{enclosure(5, 1, -5, 1, 4)}, api.ErrProof}, // the wrong way
		{[]api.Enclosure{enclosure(-2, 1, 3, 1, 4), enclosure(3, 1, 3, 1, 0)}, api.ErrProof},                                                            // a point
		{[]api.Enclosure{enclosure(-2, 1, 3, 1, 4), enclosure(4, 1, 3, 1, 1), enclosure(5, 1, 6, 1, -1)}, api.ErrProof},                                 //
		{[]api.Enclosure{enclosure(-2, 1, 3, 1, 4), enclosure(4, 1, 5, 1, 0)}, api.ErrProof}, {[]api.Enclosure{enclosure(-2, 1, 3, 0, 4)}, api.ErrForm}, //
		{[]api.Enclosure{enclosure(3, 1, 3, 1, 7), enclosure(0, 1, 1, -1, 4)}, api.ErrForm}, {[]api.Enclosure{enclosure(-2, 0, billion+1, 1, 4)}, api.ErrForm},
		{[]api.Enclosure{enclosure(-2, 1, billion+1, 1, 4), enclosure(-2, 0, 1, 1, 4)}, api.ErrLarge}, {[]api.Enclosure{enclosure(-2, billion+1, 3, 0, 4)}, api.ErrLarge}, {[]api.Enclosure{enclosure(-2, 1, 3, 1, 4), enclosure(least, 1, 3, 1, 4)}, api.ErrLarge}, {[]api.Enclosure{enclosure(-2*billion, 1, 3, 1, 4)}, api.ErrLarge},
		{make([]api.Enclosure, 62), api.ErrLarge}, {make([]api.Enclosure, 61), api.ErrForm},
	} {
		want(t, fmt.Sprint("CheckEnclosures ", c.list), brandt.CheckEnclosures(p, c.list), c.e)
	}
	want(t, "CheckEnclosures without roots", brandt.CheckEnclosures(polyOf(1, 0, 1).ints(), nil), api.OK)
	want(t, "CheckEnclosures without roots", brandt.CheckEnclosures(polyOf(1, 0, 1).ints(), []api.Enclosure{enclosure(0, 1, 1, 1, 1)}), api.ErrProof)
	want(t, "CheckEnclosures of a constant", brandt.CheckEnclosures(polyOf(5).ints(), nil), api.OK)
	// As many intervals as there may be, but one: there are no more roots.
	var many rooted
	many.p = polyOf(1)
	var list []api.Enclosure
	for k := range 60 {
		many.rational(k, 1, 1)
		list = append(list, enclosure(k-1, 1, k, 1, 1))
	}
	want(t, "CheckEnclosures of many roots", brandt.CheckEnclosures(many.p.ints(), list), api.OK)
	want(t, "CheckEnclosures of many roots and an empty interval", brandt.CheckEnclosures(many.p.ints(), append(list, enclosure(70, 1, 71, 1, 0))), api.ErrProof)
}

func TestChangedEnclosures(t *testing.T) {
	n := numbers(112)
	refused := 0
	for range 150 {
		x := n.rooted(20)
		list := x.enclosures(n.between(1, 4))
		if len(list) == 0 {
			continue
		}
		k := n.between(0, len(list)-1)
		c := &list[k]
		switch n.between(0, 5) {
		case 0:
			c.Count += one(&n, 1, -1)
		case 1:
			c.Lo.Num += n.between(-3, 3)
		case 2:
			c.Hi.Num += n.between(-3, 3)
		case 3:
			list = slices.Delete(list, k, k+1)
		case 4:
			list = slices.Insert(list, k, *c)
		case 5:
			j := n.between(0, len(list)-1)
			list[j], list[k] = list[k], list[j]
		}
		rest, right := len(x.roots), true
		for i, c := range list {
			lo, hi := rat(c.Lo.Num, c.Lo.Den), rat(c.Hi.Num, c.Hi.Den)
			right = right && lo.Cmp(hi) < 0 && c.Count > 0 && x.between(lo, hi) == c.Count && (i == 0 || rat(list[i-1].Hi.Num, list[i-1].Hi.Den).Cmp(lo) <= 0)
			rest -= c.Count
		}
		wanted := api.OK
		if !right || rest != 0 {
			wanted = api.ErrProof
			refused++
		}
		want(t, fmt.Sprint("CheckEnclosures ", x.p, list), brandt.CheckEnclosures(x.p.ints(), list), wanted)
	}
	want(t, "many that are refused", refused > 50, true)
}
