package algebra_test

import (
	"fmt"
	"testing"

	"fourfold/algebra"
	"fourfold/api"
)

// The tests of this file are those of P3.1, and of the order of errors in all functions.

func TestCheck(t *testing.T) {
	for _, x := range []struct {
		a, b int
		e    api.Errno
	}{
		{1, 1, api.OK}, {-1, -1, api.OK}, {1000, -1000, api.OK}, {-1000, 1000, api.OK}, {7, -1, api.OK},
		{0, 1, api.ErrZero}, {1, 0, api.ErrZero}, {0, 0, api.ErrZero}, {0, 1001, api.ErrZero}, {least, 0, api.ErrZero}, {greatest, 0, api.ErrZero},
		{1001, 1, api.ErrRange}, {1, 1001, api.ErrRange}, {-1001, 1, api.ErrRange}, {1, -1001, api.ErrRange}, {least, 1, api.ErrRange}, {1, least, api.ErrRange}, {greatest, greatest, api.ErrRange},
	} {
		want(t, fmt.Sprint("Check ", x.a, x.b), algebra.Check(api.Algebra{A: x.a, B: x.b}), x.e)
	}
}

// badQuats are elements that are not valid.
var badQuats = []api.Quat{
	{}, {W: 1}, {Den: -1}, {Den: coord + 1}, {W: 2, X: 2, Y: 2, Z: 2, Den: 2 * coord}, {Den: least}, {Den: greatest},
	{W: coord + 1, Den: 1}, {X: coord + 1, Den: 1}, {Y: coord + 1, Den: 1}, {Z: coord + 1, Den: 1}, {W: 2 * coord, Den: 2},
	{W: -coord - 1, Den: 1}, {X: -coord - 1, Den: 1}, {Y: -coord - 1, Den: 1}, {Z: -coord - 1, Den: 1},
	{W: least, Den: 1}, {X: least, Den: 1}, {Y: greatest, Den: 1}, {Z: least, Den: least},
}

func TestCheckQuat(t *testing.T) {
	for _, q := range []api.Quat{
		{Den: 1}, {Den: coord}, {W: coord, X: -coord, Y: coord, Z: -coord, Den: coord}, {W: -coord, X: coord, Y: -coord, Z: coord, Den: 1}, {W: 2, X: 4, Den: 6},
	} {
		want(t, fmt.Sprint("CheckQuat ", q), algebra.CheckQuat(q), api.OK)
	}
	for _, q := range badQuats {
		want(t, fmt.Sprint("CheckQuat ", q), algebra.CheckQuat(q), api.ErrForm)
	}
}

func TestNormal(t *testing.T) {
	for _, x := range [][2]api.Quat{
		{{Den: 1}, {Den: 1}}, {{Den: 7}, {Den: 1}}, {{Den: coord}, {Den: 1}},
		{{W: 2, X: 4, Y: -6, Z: 8, Den: 2}, {W: 1, X: 2, Y: -3, Z: 4, Den: 1}},
		{{W: 6, X: 0, Y: 9, Z: -12, Den: 6}, {W: 2, X: 0, Y: 3, Z: -4, Den: 2}},
		{{W: 2, X: 4, Y: 6, Z: 8, Den: 1}, {W: 2, X: 4, Y: 6, Z: 8, Den: 1}},
		{{W: 1, X: 4, Y: 4, Z: 4, Den: 4}, {W: 1, X: 4, Y: 4, Z: 4, Den: 4}}, {{W: 4, X: 1, Y: 4, Z: 4, Den: 4}, {W: 4, X: 1, Y: 4, Z: 4, Den: 4}},
		{{W: 4, X: 4, Y: 1, Z: 4, Den: 4}, {W: 4, X: 4, Y: 1, Z: 4, Den: 4}}, {{W: 4, X: 4, Y: 4, Z: 1, Den: 4}, {W: 4, X: 4, Y: 4, Z: 1, Den: 4}},
		{{Z: -coord, Den: coord}, {Z: -1, Den: 1}}, {{Y: -coord / 2, Den: coord}, {Y: -1, Den: 2}},
	} {
		q, e := algebra.Normal(x[0])
		wantResult(t, fmt.Sprint("Normal ", x[0]), q, e, x[1], api.OK)
	}
	n := numbers(1)
	for range 3000 {
		q := n.anyQuat()
		r, e := algebra.Normal(q)
		wantQuat(t, fmt.Sprint("Normal ", q), r, e, slowOf(q))
	}
}

// arguments are what a function of the package is called with.
type arguments struct {
	a, b api.Algebra
	p, q api.Quat
	by   api.Frac
	n    int
	i, j api.Mat2
	l    []api.Quat
	s    string
}

// function is a function of the package, with the numbers of algebras and of elements (p, q) that it is given.
type function struct {
	algebras, elements int
	call               func(x arguments) []any
}

// functions are all functions of the package.
var functions = map[string]function{
	"Check":            {1, 0, func(x arguments) []any { return all(algebra.Check(x.a)) }},
	"CheckQuat":        {0, 1, func(x arguments) []any { return all(algebra.CheckQuat(x.p)) }},
	"Normal":           {0, 1, func(x arguments) []any { return all(algebra.Normal(x.p)) }},
	"Add":              {0, 2, func(x arguments) []any { return all(algebra.Add(x.p, x.q)) }},
	"Sub":              {0, 2, func(x arguments) []any { return all(algebra.Sub(x.p, x.q)) }},
	"Scale":            {0, 1, func(x arguments) []any { return all(algebra.Scale(x.p, x.by)) }},
	"Mul":              {1, 2, func(x arguments) []any { return all(algebra.Mul(x.a, x.p, x.q)) }},
	"Conj":             {0, 1, func(x arguments) []any { return all(algebra.Conj(x.p)) }},
	"Trace":            {0, 1, func(x arguments) []any { return all(algebra.Trace(x.p)) }},
	"Norm":             {1, 1, func(x arguments) []any { return all(algebra.Norm(x.a, x.p)) }},
	"Inverse":          {1, 1, func(x arguments) []any { return all(algebra.Inverse(x.a, x.p)) }},
	"Power":            {1, 1, func(x arguments) []any { return all(algebra.Power(x.a, x.p, x.n)) }},
	"Polynomial":       {1, 1, func(x arguments) []any { return all(algebra.Polynomial(x.a, x.p)) }},
	"Integral":         {1, 1, func(x arguments) []any { return all(algebra.Integral(x.a, x.p)) }},
	"Ramified":         {1, 0, func(x arguments) []any { return all(algebra.Ramified(x.a)) }},
	"Discriminant":     {1, 0, func(x arguments) []any { return all(algebra.Discriminant(x.a)) }},
	"Definite":         {1, 0, func(x arguments) []any { return all(algebra.Definite(x.a)) }},
	"Divisor":          {1, 0, func(x arguments) []any { return all(algebra.Divisor(x.a)) }},
	"Split":            {1, 0, func(x arguments) []any { return all(algebra.Split(x.a)) }},
	"CheckSplit":       {1, 0, func(x arguments) []any { return all(algebra.CheckSplit(x.a, x.i, x.j)) }},
	"Isomorphic":       {2, 0, func(x arguments) []any { return all(algebra.Isomorphic(x.a, x.b)) }},
	"Isomorphism":      {2, 0, func(x arguments) []any { return all(algebra.Isomorphism(x.a, x.b)) }},
	"CheckIsomorphism": {2, 0, func(x arguments) []any { return all(algebra.CheckIsomorphism(x.a, x.b, x.l)) }},
	"Modulo":           {1, 0, func(x arguments) []any { return all(algebra.Modulo(x.a, x.n)) }},
	"Format":           {0, 1, func(x arguments) []any { return all(algebra.Format(x.p)) }},
	"Parse":            {0, 0, func(x arguments) []any { return all(algebra.Parse(x.s)) }},
}

// firstError is the first error of the algebras and elements of a function.
func (f function) firstError(x arguments) api.Errno {
	for _, a := range []api.Algebra{x.a, x.b}[:f.algebras] {
		if e := algebra.Check(a); e != api.OK {
			return e
		}
	}
	for _, q := range []api.Quat{x.p, x.q}[:f.elements] {
		if e := algebra.CheckQuat(q); e != api.OK {
			return e
		}
	}
	return api.OK
}

func TestErrorsOfAlgebrasAndElements(t *testing.T) {
	algebras := []api.Algebra{hamilton, {A: 0, B: 1}, {A: 1, B: 0}, {A: 1001, B: 1}, {A: 1, B: -1001}, {A: 0, B: 1001}}
	elements := []api.Quat{{W: 1, Den: 1}, {}, {Z: coord + 1, Den: 1}}
	for name, f := range functions {
		for _, a := range algebras {
			for _, b := range algebras {
				for _, p := range elements {
					for _, q := range elements {
						x := arguments{a: a, b: b, p: p, q: q, n: 1000} // with other errors behind
						if e := f.firstError(x); e != api.OK {
							wantError(t, fmt.Sprint(name, " ", x), e, f.call(x)...)
						}
					}
				}
			}
		}
	}
}
