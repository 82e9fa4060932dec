package ideal

import (
	"slices"

	"fourfold/api"
	"fourfold/exact"
	"fourfold/integer"
)

// mostUnits is the greatest number of units, and a multiple of all others: so masses, times it, are integers.
const mostUnits = 24

// weight returns the mass for D and N, times mostUnits.
func weight(disc, level int) int {
	product := 1
	ofDisc, _ := integer.Factor(disc)
	for _, f := range ofDisc {
		product *= f.Prime - 1
	}
	ofLevel, _ := integer.Factor(level)
	for _, f := range ofLevel {
		product *= f.Prime + 1
	}
	return product
}

// Mass returns the mass.
func Mass(disc, level int) (api.Frac, api.Errno) {
	if disc < 1 || level < 1 || disc > api.MaxLevel || level > api.MaxLevel || disc*level > api.MaxLevel {
		return api.Frac{}, api.ErrRange
	}
	all, _ := integer.Factor(disc * level)
	if slices.ContainsFunc(all, func(f api.Power) bool { return f.Exponent > 1 }) {
		return api.Frac{}, api.ErrForm
	}
	if primes, _ := integer.Factor(disc); len(primes)%2 == 0 {
		return api.Frac{}, api.ErrDefinite
	}
	return exact.Quotient(integer.Of(weight(disc, level)), integer.Of(mostUnits)).Frac()
}
