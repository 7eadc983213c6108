package phragmen

import (
	"math"
	"math/big"
	"math/rand"
	"slices"
	"testing"

	"psephos/api"
	"psephos/limb"
	"psephos/ratio"
)

// full returns the greatest natural of n limbs, and power the least one of
// n + 1 limbs; nothing divides both.
func full(n int) limb.Nat { return slices.Repeat(limb.Nat{1<<32 - 1}, n) }

func power(n int) limb.Nat { return append(make(limb.Nat, n), 1) }

// part returns 1 / den.
func part(den limb.Nat) ratio.Ratio { return ratio.Ratio{Num: limb.Of(1), Den: den} }

// rest returns 1 - 1 / den.
func rest(den limb.Nat) ratio.Ratio {
	num, _ := limb.Sub(den, limb.Of(1))
	return ratio.Ratio{Num: num, Den: den}
}

func share(voter, candidate int, weight ratio.Ratio) Share {
	return Share{Voter: voter, Candidate: candidate, Weight: weight}
}

// wantSupports holds the supports of a committee against what is wanted.
func wantSupports(t *testing.T, committee []int, shares []Share, want ...*big.Rat) {
	t.Helper()
	got, e := Supports(committee, shares)
	if e != api.OK || !slices.EqualFunc(got, want, is) {
		t.Errorf("Supports(%d, %v): %v, %v, wanted %v", committee, shares, got, e, want)
	}
}

func wantRefused(t *testing.T, committee []int, shares []Share, want api.Errno) {
	t.Helper()
	if got, e := Supports(committee, shares); e != want || got != nil {
		t.Errorf("Supports(%d, %v): %v, %v, wanted %v", committee, shares, got, e, want)
	}
}

// P11.1: the sum for each member, in the order of the committee.
func TestSupports(t *testing.T) {
	_, shares, _ := Elect(example(), 8)
	wantSupports(t, nil, nil)
	wantSupports(t, []int{}, []Share{})
	wantSupports(t, nil, shares)
	wantSupports(t, []int{2, 1, 5}, shares, rat(16, 7), rat(12, 7), rat(0, 1))
	wantSupports(t, []int{1, 2}, shares, rat(12, 7), rat(16, 7))
	wantSupports(t, []int{2}, shares, rat(16, 7))
	wantSupports(t, []int{7, 8}, shares, rat(0, 1), rat(0, 1))
	wantSupports(t, []int{2, 1}, nil, rat(0, 1), rat(0, 1))
	wantSupports(t, []int{2, 1}, []Share{}, rat(0, 1), rat(0, 1))
	// The same member twice.
	wantSupports(t, []int{2, 1, 2, 2}, shares, rat(16, 7), rat(12, 7), rat(16, 7), rat(16, 7))
	// Any numbers: of members, and of voters.
	ends := []Share{share(math.MinInt, math.MaxInt, small(1, 3)), share(-1, math.MinInt, small(5, 1)),
		share(math.MaxInt, math.MaxInt, small(2, 3)), share(-1, -1, small(0, 1)), share(-1, -1, small(7, 2))}
	wantSupports(t, []int{math.MinInt, math.MaxInt, -1, 0}, ends, rat(5, 1), rat(1, 1), rat(7, 2), rat(0, 1))
	// The same share twice counts twice, and weights of 0 count nothing.
	one := share(1, 4, small(1, 4))
	wantSupports(t, []int{4}, []Share{one, one, share(1, 4, small(0, 1)), one}, rat(3, 4))
	wantSupports(t, []int{4}, []Share{share(1, 4, small(0, 1)), share(2, 4, ratio.Ratio{Num: limb.Nat{}, Den: limb.Of(1)})}, rat(0, 1))
	// More members and shares than there are seats and voters.
	many := slices.Repeat([]Share{share(1, 3, small(1, 2)), share(2, 5, small(1, 3))}, 40)
	wantSupports(t, slices.Repeat([]int{5}, 40), many, slices.Repeat([]*big.Rat{rat(40, 3)}, 40)...)
}

func illFormed() []ratio.Ratio {
	return []ratio.Ratio{
		{}, {Num: limb.Of(1)}, {Den: limb.Of(0)}, small(2, 4), small(0, 2), small(3, 3), small(1, 0), small(0, 0),
		{Num: limb.Nat{1, 0}, Den: limb.Of(1)}, {Num: limb.Of(1), Den: limb.Nat{1, 0}}, {Num: limb.Nat{0}, Den: limb.Of(1)},
		{Num: power(400), Den: limb.Of(1)}, {Num: limb.Of(1), Den: full(401)}, {Num: full(400), Den: full(400)},
	}
}

// P11.1: a weight that is not well formed is refused wherever it is, whatever
// else is wrong.
func TestIllFormedWeights(t *testing.T) {
	long := []Share{share(1, 1, part(full(201))), share(2, 1, part(power(201)))}
	for _, w := range illFormed() {
		for _, candidate := range []int{1, 2, 3, -1} {
			bad := share(1, candidate, w)
			for _, committee := range [][]int{nil, {1}, {2, 1}, {5}} {
				wantRefused(t, committee, []Share{bad}, api.ErrArg)
				wantRefused(t, committee, []Share{share(1, 1, small(1, 2)), bad, share(2, 1, small(1, 2))}, api.ErrArg)
				wantRefused(t, committee, append([]Share{bad}, long...), api.ErrArg)
				wantRefused(t, committee, append(slices.Clone(long), bad), api.ErrArg)
			}
		}
	}
}

// P11.1: sums that are too long, and that each sum adds the weights in their
// order.
func TestLongSums(t *testing.T) {
	a, b := share(1, 1, part(full(201))), share(2, 1, part(power(201)))
	wantRefused(t, []int{1}, []Share{a, b}, api.ErrLong)
	wantRefused(t, []int{2, 1}, []Share{a, share(3, 2, small(1, 2)), b}, api.ErrLong)
	wantRefused(t, []int{1, 2}, []Share{a, share(3, 2, small(1, 2)), b}, api.ErrLong)
	wantRefused(t, []int{1, 1}, []Share{share(3, 1, small(0, 1)), a, b}, api.ErrLong)
	// One of them alone is not too long, nor are sums of others than members.
	wantSupports(t, []int{1, 2}, []Share{a, share(2, 2, part(power(201)))}, toRat(a.Weight), toRat(b.Weight))
	wantSupports(t, []int{2}, []Share{a, share(3, 2, small(1, 2)), b}, rat(1, 2))
	wantSupports(t, nil, []Share{a, b})
	// The longest weights are sums of themselves, from 0 on.
	longest := share(1, 1, ratio.Ratio{Num: full(400), Den: power(399)})
	wantSupports(t, []int{1}, []Share{longest}, toRat(longest.Weight))
	wantRefused(t, []int{1}, []Share{share(1, 1, ratio.Ratio{Num: full(400), Den: limb.Of(1)}), share(1, 1, small(1, 1))}, api.ErrLong)
	// Two that are together 1 make room for a third one, if they come first or
	// last, but not if it comes between them.
	x, y, z := share(1, 1, part(full(200))), share(2, 1, rest(full(200))), share(3, 1, part(power(200)))
	whole := new(big.Rat).Add(rat(1, 1), toRat(z.Weight))
	wantSupports(t, []int{1}, []Share{x, y, z}, whole)
	wantSupports(t, []int{1}, []Share{y, x, z}, whole)
	wantRefused(t, []int{1}, []Share{x, z, y}, api.ErrLong)
	wantRefused(t, []int{1}, []Share{z, x, y}, api.ErrLong)
	wantRefused(t, []int{1}, []Share{y, z, x}, api.ErrLong)
}

// P11.1: random shares, held against the plain reckoning.
func TestManySupports(t *testing.T) {
	r := rand.New(rand.NewSource(3))
	for range 300 {
		sums := map[int]*big.Rat{}
		var shares []Share
		for range r.Intn(20) {
			weight, _ := ratio.Of(r.Uint64()>>r.Intn(64), 1+r.Uint64()>>1>>r.Intn(63))
			one := share(r.Intn(5), r.Intn(6), weight)
			shares = append(shares, one)
			if sums[one.Candidate] == nil {
				sums[one.Candidate] = new(big.Rat)
			}
			sums[one.Candidate].Add(sums[one.Candidate], toRat(weight))
		}
		var committee []int
		var want []*big.Rat
		for range r.Intn(9) {
			member := r.Intn(8)
			committee = append(committee, member)
			if sums[member] == nil {
				sums[member] = new(big.Rat)
			}
			want = append(want, sums[member])
		}
		wantSupports(t, committee, shares, want...)
	}
}

// P11.2: what is given to the elected is all that their voters hold.
func TestSupportsOfElected(t *testing.T) {
	r := rand.New(rand.NewSource(4))
	for range 100 {
		s := someSnapshot(r, 8, 6, 1<<60)
		elected, shares, _ := Elect(s, r.Intn(9))
		supports, e := Supports(candidates(elected), shares)
		if e != api.OK || len(supports) != len(elected) {
			t.Fatalf("Supports(%d, %v): %v, %v", candidates(elected), shares, supports, e)
		}
		given, held := new(big.Rat), new(big.Rat)
		for _, support := range supports {
			given.Add(given, toRat(support))
		}
		for _, v := range s.Voters {
			if slices.ContainsFunc(shares, func(one Share) bool { return one.Voter == v.ID }) {
				held.Add(held, rat(v.Stake, 1))
			}
		}
		if given.Cmp(held) != 0 {
			t.Errorf("%v: %v are given, %v held", s, given, held)
		}
	}
}
