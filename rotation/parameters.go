package rotation

import "fourfold/api"

// fraction returns num/den in lowest terms; den is positive.
func fraction(num, den int) api.Frac {
	g := commonDivisor(num, den)
	return api.Frac{Num: num / g, Den: den / g}
}

// Rodrigues returns the three parameters of a rotation.
func Rodrigues(x api.Quat) ([]api.Frac, api.Errno) {
	t, e := acceptTurn(x)
	if e != api.OK {
		return nil, e
	}
	if t.w == 0 {
		return nil, api.ErrNone
	}
	return []api.Frac{fraction(t.x, t.w), fraction(t.y, t.w), fraction(t.z, t.w)}, api.OK
}

// checkParameter returns the error of a parameter.
func checkParameter(f api.Frac) api.Errno {
	if f.Den <= 0 {
		return api.ErrForm
	}
	if !isWithin(f.Num, api.MaxParam) || !isWithin(f.Den, api.MaxParam) {
		return api.ErrRange
	}
	return api.OK
}

// FromRodrigues returns the reduced quaternion with these parameters.
func FromRodrigues(l []api.Frac) (api.Quat, api.Errno) {
	if len(l) != 3 {
		return api.Quat{}, api.ErrShape
	}
	for _, f := range l {
		if e := checkParameter(f); e != api.OK {
			return api.Quat{}, e
		}
	}
	a, b, c := l[0], l[1], l[2]
	t := turnOf(four{a.Den * b.Den * c.Den, a.Num * b.Den * c.Den, a.Den * b.Num * c.Den, a.Den * b.Den * c.Num})
	if !t.fits(api.MaxCoord) {
		return api.Quat{}, api.ErrLarge
	}
	return t.result(), api.OK
}

// Cosine returns the cosine of the angle of a rotation.
func Cosine(x api.Quat) (api.Frac, api.Errno) {
	t, e := acceptTurn(x)
	if e != api.OK {
		return api.Frac{}, e
	}
	return fraction(2*t.w*t.w-t.squares(), t.squares()), api.OK
}
