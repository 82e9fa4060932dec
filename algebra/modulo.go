package algebra

import (
	"fourfold/api"
	"fourfold/integer"
)

// Modulo returns two residue matrices that represent the algebra modulo p.
func Modulo(a api.Algebra, p int) (i, j api.Mod2, e api.Errno) {
	if e := Check(a); e != api.OK {
		return api.Mod2{}, api.Mod2{}, e
	}
	if p == 2 || p > api.MaxMod || !integer.IsPrime(p) || a.A%p == 0 || a.B%p == 0 {
		return api.Mod2{}, api.Mod2{}, api.ErrPrime
	}
	residue := func(n int) int { return (n%p + p) % p }
	u, v := normModulo(a, p)
	i = api.Mod2{A: 0, B: residue(a.A), C: 1, D: 0}
	j = api.Mod2{A: u, B: residue(-a.A * v), C: v, D: residue(-u)}
	return i, j, api.OK
}

// normModulo returns residues u and v with u^2 - A v^2 congruent to B modulo p, an odd prime that does not divide A. There are always some: u^2 and A v^2 + B have (p + 1)/2 values each, so one in common.
func normModulo(a api.Algebra, p int) (u, v int) {
	for v := range p {
		if roots, _ := integer.Roots(a.A*v*v+a.B, p, 1); len(roots) > 0 {
			return roots[0], v
		}
	}
	return 0, 0
}
