package integer_test

import (
	"fmt"
	"math/big"
	"slices"
	"testing"

	"fourfold/api"
	"fourfold/integer"
)

// The tests of this file are those of P1.5.

func TestIsPrime(t *testing.T) {
	const end = 100000
	composite := make([]bool, end)
	for n := 2; n < end; n++ {
		want(t, fmt.Sprint("IsPrime ", n), integer.IsPrime(n), !composite[n])
		for m := 2 * n; m < end; m += n {
			composite[m] = true
		}
	}
	for n := limit - 300; n <= limit; n++ {
		want(t, fmt.Sprint("IsPrime ", n), integer.IsPrime(n), big.NewInt(int64(n)).ProbablyPrime(20))
	}
	for _, n := range []int{31607 * 31607, 31601 * 31607, 3 * 333333313, 25326001, 3215031751} {
		want(t, fmt.Sprint("IsPrime ", n), integer.IsPrime(n), false)
	}
	for _, n := range []int{least, -7, -2, -1, 0, 1, limit + 7, limit + 9, 4294967291, greatest, greatest - 24} {
		want(t, fmt.Sprint("IsPrime ", n), integer.IsPrime(n), false)
	}
}

// isRoot reports whether root is a primitive root modulo the prime n.
func isRoot(root, n int, primes []int) bool {
	modulus := big.NewInt(int64(n))
	for _, q := range primes {
		power := new(big.Int).Exp(big.NewInt(int64(root)), big.NewInt(int64((n-1)/q)), modulus)
		if power.Cmp(big.NewInt(1)) == 0 {
			return false
		}
	}
	return true
}

// standard is the standard proof, for primes of any size.
func standard(n int) []api.Step {
	found := map[int]api.Step{}
	open := []int{n}
	for len(open) > 0 {
		p := open[0]
		primes := slices.Compact(slowFactors(p - 1))
		root := 1
		for !isRoot(root, p, primes) {
			root++
		}
		found[p] = api.Step{N: p, Root: root, Primes: primes}
		open = append(open[1:], primes...)
	}
	var proof []api.Step
	for _, s := range found {
		proof = append(proof, s)
	}
	slices.SortFunc(proof, func(a, b api.Step) int { return a.N - b.N })
	return proof
}

func TestCertify(t *testing.T) {
	for n := 2; n < 2500; n++ {
		proof, e := integer.Certify(n)
		if !slowPrime(n) {
			want(t, fmt.Sprint("Certify ", n), e, api.ErrPrime)
			wantList(t, "beside the error", proof, nil)
			continue
		}
		want(t, fmt.Sprint("Certify ", n), e, api.OK)
		wantSteps(t, fmt.Sprint("Certify ", n), proof, standard(n))
		want(t, fmt.Sprint("CheckPrime ", n), integer.CheckPrime(n, proof), api.OK)
	}
	for _, n := range []int{65537, 5767169, 998244353, 999999893, 999999937} {
		proof, e := integer.Certify(n)
		want(t, fmt.Sprint("Certify ", n), e, api.OK)
		wantSteps(t, fmt.Sprint("Certify ", n), proof, standard(n))
		want(t, fmt.Sprint("CheckPrime ", n), integer.CheckPrime(n, proof), api.OK)
	}
	for _, n := range []int{least, -2, 0, 1, limit, limit + 7, greatest} {
		proof, e := integer.Certify(n)
		want(t, fmt.Sprint("Certify ", n), e, api.ErrPrime)
		wantList(t, "beside the error", proof, nil)
	}
}

// wantSteps compares proofs; a nil list of primes and an empty one are the same.
func wantSteps(t *testing.T, what string, got, wanted []api.Step) {
	t.Helper()
	same := func(a, b api.Step) bool { return a.N == b.N && a.Root == b.Root && slices.Equal(a.Primes, b.Primes) }
	if !slices.EqualFunc(got, wanted, same) {
		t.Errorf("%s: %v, want %v", what, got, wanted)
	}
}

func TestMemoryOfProofs(t *testing.T) {
	proof, _ := integer.Certify(999999937)
	for i := range proof {
		primes := proof[i].Primes[:cap(proof[i].Primes)]
		for j := range primes {
			primes[j] = -1
		}
		proof[i].Primes = nil
		wanted := standard(999999937)
		wantSteps(t, "the other steps", proof[i+1:], wanted[i+1:])
	}
	proof = standard(999999937)
	integer.CheckPrime(999999937, proof)
	wantSteps(t, "the argument of CheckPrime", proof, standard(999999937))
}

// The steps of proofs for small primes.
var (
	two   = api.Step{N: 2, Root: 1}
	three = api.Step{N: 3, Root: 2, Primes: []int{2}}
	five  = api.Step{N: 5, Root: 2, Primes: []int{2}}
	seven = api.Step{N: 7, Root: 3, Primes: []int{2, 3}}
)

func TestProofsThatAreAccepted(t *testing.T) {
	for _, x := range []struct {
		n int
		l []api.Step
	}{
		{2, []api.Step{two}},
		{2, []api.Step{two, two, two}},
		{3, []api.Step{two, three}},
		{7, []api.Step{two, three, seven}},
		{7, []api.Step{two, three, {N: 7, Root: 5, Primes: []int{2, 3}}}},
		{7, []api.Step{two, five, three, seven}},
		{7, []api.Step{two, three, seven, three, two, seven}},
		{3, []api.Step{two, three, seven, three}},
		{5, []api.Step{two, {N: 5, Root: 3, Primes: []int{2}}, five}},
		{2, slices.Repeat([]api.Step{two}, api.MaxProof)},
		{7, append(slices.Repeat([]api.Step{two}, api.MaxProof-2), three, seven)},
		{999999937, standard(999999937)},
	} {
		want(t, fmt.Sprint("CheckPrime ", x.n, x.l), integer.CheckPrime(x.n, x.l), api.OK)
	}
}

// last is a proof whose last step is this one; it has steps for 2, 3 and 5.
func last(n, root int, primes ...int) []api.Step {
	return []api.Step{two, three, five, {N: n, Root: root, Primes: primes}}
}

func TestProofsThatAreRefused(t *testing.T) {
	for _, x := range []struct {
		what string
		n    int
		l    []api.Step
	}{
		{"no steps", 7, nil}, {"no steps", 0, nil}, {"no steps", 1, []api.Step{}},
		{"another number", 5, last(7, 3, 2, 3)}, {"another number", -7, last(7, 3, 2, 3)},
		{"the number not at the end", 7, []api.Step{two, three, seven, three}},
		{"1", 1, last(1, 1)}, {"1 with root 0", 1, last(1, 0)}, {"0", 0, last(0, 1)}, {"a negative number", -1, last(-1, 1)}, {"the least int", least, last(least, 1)},
		{"a number above the limit", limit + 7, standard(limit + 7)}, {"the greatest int", greatest, last(greatest, 1)},
		{"primes that descend", 7, last(7, 3, 3, 2)}, {"a prime twice", 7, last(7, 3, 2, 2, 3)}, {"a prime twice", 5, last(5, 2, 2, 2)},
		{"a prime without a step", 7, []api.Step{two, seven}}, {"a prime with a later step", 7, []api.Step{two, seven, three, seven}},
		{"itself", 7, last(7, 3, 2, 3, 7)}, {"itself alone", 2, []api.Step{{N: 2, Root: 1, Primes: []int{2}}}},
		{"a prime that does not divide", 7, last(7, 3, 2, 3, 5)}, {"a prime that does not divide", 2, []api.Step{two, {N: 2, Root: 1, Primes: []int{2}}}},
		{"a prime is missing", 7, last(7, 6, 2)}, {"a prime is missing", 7, last(7, 2, 3)}, {"all primes are missing", 7, last(7, 1)}, {"all primes are missing", 3, last(3, 1)},
		{"0 among the primes", 7, last(7, 3, 0, 2, 3)}, {"1 among the primes", 7, last(7, 3, 1, 2, 3)}, {"a negative prime", 7, last(7, 3, -2, 2, 3)}, {"a product of primes", 7, last(7, 3, 6)},
		{"root 0", 7, last(7, 0, 2, 3)}, {"a negative root", 7, last(7, -4, 2, 3)}, {"a root that is not reduced", 7, last(7, 10, 2, 3)}, {"the number itself as the root", 7, last(7, 7, 2, 3)},
		{"root 0 of 2", 2, last(2, 0)}, {"root 2 of 2", 2, last(2, 2)}, {"root 3 of 2", 2, last(2, 3)},
		{"a root that is no primitive one", 7, last(7, 2, 2, 3)}, {"a root that is no primitive one", 7, last(7, 6, 2, 3)}, {"root 1", 7, last(7, 1, 2, 3)},
		{"a power that is not 1", 9, last(9, 2, 2)}, {"a power that is not 1", 9, last(9, 3, 2)}, {"a composite number", 9, last(9, 8, 2)},
		{"a wrong step that is not needed", 7, []api.Step{two, {N: 9, Root: 2, Primes: []int{2}}, three, seven}},
		{"a wrong step in front", 7, []api.Step{{}, two, three, seven}},
		{"as many steps as there may be", 7, make([]api.Step, api.MaxProof)},
	} {
		want(t, fmt.Sprint("CheckPrime with ", x.what, ": ", x.n), integer.CheckPrime(x.n, x.l), api.ErrProof)
	}
	for _, n := range []int{2, 0, 4} {
		want(t, "CheckPrime with many steps", integer.CheckPrime(n, slices.Repeat([]api.Step{two}, api.MaxProof+1)), api.ErrLarge)
		want(t, "CheckPrime with many wrong steps", integer.CheckPrime(n, make([]api.Step, api.MaxProof+1)), api.ErrLarge)
	}
}
