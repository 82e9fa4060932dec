package algebra_test

import (
	"fmt"
	"reflect"
	"slices"
	"testing"

	"fourfold/algebra"
	"fourfold/api"
)

// The tests of this file are those of R1 to R4 and R8: zero values beside errors, no panics, no shared memory, the same results again, nil as good as empty.

// strange is a number that is often at the end of some range.
func (n *numbers) strange() int {
	list := []int{0, 1, -1, 2, 3, -7, 9, 60, 61, -60, 1000, -1000, 1001, 9973, 10007, coord, -coord, coord + 1, mostFrac, -mostFrac, mostFrac + 1, least, least + 1, greatest, 1 << 32}
	return list[n.between(0, len(list)-1)]
}

// either is a strange number, or more often one of a mild range.
func (n *numbers) either(most int) int {
	if n.between(0, 4) == 0 {
		return n.strange()
	}
	return n.between(-most, most)
}

// strangeQuat is an element, or none.
func (n *numbers) strangeQuat() api.Quat {
	q := api.Quat{W: n.either(9), X: n.either(9), Y: n.either(coord), Z: n.either(9), Den: n.either(9)}
	if n.between(0, 2) > 0 {
		q = n.anyQuat()
	}
	return q
}

// strangeMatrix is a matrix, or none.
func (n *numbers) strangeMatrix() api.Mat2 {
	f := func() api.Frac { return api.Frac{Num: n.either(9), Den: n.either(9)} }
	return api.Mat2{A: f(), B: f(), C: f(), D: f()}
}

// strangeArguments are arguments, many of them right ones.
func (n *numbers) strangeArguments() arguments {
	x := arguments{
		a: api.Algebra{A: n.either(9), B: n.either(9)}, b: api.Algebra{A: n.either(9), B: n.either(9)},
		p: n.strangeQuat(), q: n.strangeQuat(), by: api.Frac{Num: n.either(9), Den: n.either(9)}, n: n.either(60), i: n.strangeMatrix(), j: n.strangeMatrix(),
	}
	for range n.between(0, 3) {
		x.l = append(x.l, n.strangeQuat())
	}
	x.s = texts[n.between(0, len(texts)-1)].text
	if n.between(0, 1) == 0 {
		x.s = x.s[n.between(0, len(x.s)):] + string([]byte{byte(n.next())})
	}
	return x
}

func TestStrangeArguments(t *testing.T) {
	n := numbers(22)
	right := map[string]int{}
	for range 1500 {
		seed := n
		x := n.strangeArguments()
		for name, f := range functions {
			results := f.call(x)
			e := results[len(results)-1].(api.Errno)
			if first := f.firstError(x); first != api.OK {
				want(t, fmt.Sprint(name, " ", x), e, first)
			}
			if e != api.OK {
				wantError(t, fmt.Sprint(name, " ", x), e, results...)
			} else {
				right[name]++
			}
			if again := f.call(x); !reflect.DeepEqual(results, again) {
				t.Fatalf("%s: %v, and then %v", name, results, again)
			}
		}
		if fresh := seed; !reflect.DeepEqual(x, fresh.strangeArguments()) {
			t.Fatalf("an argument has been changed: %v", x)
		}
	}
	for name := range functions {
		if right[name] < 20 && name != "CheckSplit" && name != "CheckIsomorphism" {
			t.Errorf("%s has had only %d results", name, right[name])
		}
	}
}

func TestMemory(t *testing.T) {
	quats := []api.Quat{i, j}
	want(t, "CheckIsomorphism", algebra.CheckIsomorphism(hamilton, hamilton, quats), api.OK)
	want(t, "the argument of CheckIsomorphism", slices.Equal(quats, []api.Quat{i, j}), true)
	for range 2 { // what is done to a result does not show in another one
		primes, _ := places(t, six)
		wantResult(t, "Ramified", primes, api.OK, []int{2, 3}, api.OK)
		primes[0] = 0
		_ = append(primes[:1], 0)
		list, e := algebra.Polynomial(hamilton, i)
		wantResult(t, "Polynomial", list, e, []api.Frac{{Num: 1, Den: 1}, {Num: 0, Den: 1}, {Num: 1, Den: 1}}, api.OK)
		clear(list)
	}
}

func TestNilAndEmpty(t *testing.T) {
	want(t, "CheckIsomorphism with an empty list", algebra.CheckIsomorphism(hamilton, hamilton, []api.Quat{}), api.ErrShape)
	want(t, "CheckIsomorphism with nil", algebra.CheckIsomorphism(hamilton, hamilton, nil), api.ErrShape)
}
