package balance

import (
	"math"
	"math/big"
	"math/rand"
	"slices"
	"testing"

	"psephos/api"
	"psephos/limb"
	"psephos/phragmen"
	"psephos/ratio"
)

const greatest = 1<<31 - 1

func voter(id int, stake uint64, picks ...int) api.Voter {
	return api.Voter{ID: id, Stake: stake, Picks: picks}
}

func snapshot(candidates []int, voters ...api.Voter) api.Snapshot {
	return api.Snapshot{Voters: voters, Candidates: candidates}
}

func share(voter, candidate int, weight ratio.Ratio) phragmen.Share {
	return phragmen.Share{Voter: voter, Candidate: candidate, Weight: weight}
}

// from returns n numbers, one after the other.
func from(first, n int) []int {
	list := make([]int, n)
	for i := range list {
		list[i] = first + i
	}
	return list
}

func example() (api.Snapshot, []phragmen.Share) {
	s := snapshot([]int{1, 2, 3}, voter(7, 4, 1, 2), voter(8, 2, 2), voter(6, 5), voter(5, 0, 1))
	return s, []phragmen.Share{share(7, 1, small(1, 1)), share(7, 2, small(3, 1)), share(8, 2, small(2, 1))}
}

// plainEven is the chapter's turns, word for word.
func plainEven(s api.Snapshot, shares []phragmen.Share, passes int) []*big.Rat {
	var weights []*big.Rat
	for _, one := range shares {
		weights = append(weights, toRat(one.Weight))
	}
	for range passes {
		for _, v := range s.Voters {
			var own []int
			var supports []*big.Rat
			for i, one := range shares {
				if one.Voter != v.ID {
					continue
				}
				without := new(big.Rat)
				for j, other := range shares {
					if other.Voter != v.ID && other.Candidate == one.Candidate {
						without.Add(without, weights[j])
					}
				}
				own, supports = append(own, i), append(supports, without)
			}
			if len(own) == 0 {
				continue
			}
			for i, weight := range plainTurn(v.Stake, supports) {
				weights[own[i]] = weight
			}
		}
	}
	return weights
}

// wantEven holds the new weights of shares against what is wanted.
func wantEven(t *testing.T, s api.Snapshot, committee []int, shares []phragmen.Share, passes int, want ...*big.Rat) {
	t.Helper()
	got, e := Even(s, committee, shares, passes)
	if e != api.OK || len(got) != len(shares) || len(want) != len(shares) {
		t.Errorf("Even(%v, %d, %v, %d): %v, %v, wanted %v", s, committee, shares, passes, got, e, want)
		return
	}
	for i, one := range got {
		if one.Voter != shares[i].Voter || one.Candidate != shares[i].Candidate || !is(one.Weight, want[i]) {
			t.Errorf("Even(%v, %d, %v, %d): the share %d is %v, wanted %v", s, committee, shares, passes, i, one, want[i])
		}
	}
}

func wantEvenly(t *testing.T, s api.Snapshot, committee []int, shares []phragmen.Share, passes int) {
	t.Helper()
	wantEven(t, s, committee, shares, passes, plainEven(s, shares, passes)...)
}

// wantNotEven holds what is refused.
func wantNotEven(t *testing.T, s api.Snapshot, committee []int, shares []phragmen.Share, passes int, want api.Errno) {
	t.Helper()
	if got, e := Even(s, committee, shares, passes); e != want || got != nil {
		t.Errorf("Even(%v, %d, %v, %d): %v, %v, wanted %v", s, committee, shares, passes, got, e, want)
	}
}

// P12.2: each voter has its turn, with its stake and the candidates of its
// shares.
func TestEven(t *testing.T) {
	s, shares := example()
	for passes := 1; passes <= api.MaxPasses; passes++ {
		wantEven(t, s, []int{1, 2}, shares, passes, rats(3, 1, 2)...)
		wantEven(t, s, []int{2, 1, 9}, shares, passes, rats(3, 1, 2)...)
	}
	wantEven(t, s, []int{1, 2}, shares, 0, rats(1, 3, 2)...)
	// What it gave before doesn't matter, be it that it was not its stake.
	odd := []phragmen.Share{share(7, 1, small(most, 7)), share(7, 2, small(0, 1)), share(8, 2, small(2, 1))}
	wantEven(t, s, []int{1, 2}, odd, 1, rats(3, 1, 2)...)
	// But what the others give does.
	odd[2].Weight = small(1, 3)
	wantEven(t, s, []int{1, 2}, odd, 1, rat(13, 6), rat(11, 6), rat(2, 1))
	wantEven(t, s, []int{1, 2}, odd, 2, rats(3, 1, 2)...)
	// Its candidates are those of its shares, not its picks.
	wantEven(t, s, []int{1, 2}, shares[1:], 1, rats(4, 2)...)
	wantEven(t, s, []int{3}, []phragmen.Share{share(8, 3, small(1, 2))}, 1, rats(2)...)
	// Members need not be candidates, nor picked by anybody.
	wantEven(t, s, []int{9, -4, math.MinInt, math.MaxInt},
		[]phragmen.Share{share(7, math.MinInt, small(1, 2)), share(8, -4, small(1, 2)), share(7, math.MaxInt, small(3, 1)), share(7, -4, small(5, 1))}, 1,
		rat(3, 2), rat(2, 1), rat(3, 2), rat(1, 1))
}

// P12.2: without passes the shares are returned as they came, however long
// their sums would be.
func TestNoPasses(t *testing.T) {
	s, _ := example()
	wantEven(t, s, nil, nil, 0)
	wantEven(t, s, from(1, 8), []phragmen.Share{}, 0)
	shares := []phragmen.Share{share(8, 2, part(full(400))), share(7, 1, small(1, 1)), share(7, 2, part(power(399))),
		share(5, 2, ratio.Ratio{Num: full(400), Den: limb.Of(1)}), share(7, 3, small(0, 1)), share(6, 1, small(7, 3))}
	wantEvenly(t, s, []int{1, 2, 3}, shares, 0)
}

// P12.2: no shares, voters without shares, and voters with a stake of 0.
func TestNothingGiven(t *testing.T) {
	s, shares := example()
	for passes := range api.MaxPasses + 1 {
		for _, committee := range [][]int{nil, {}, {1}, from(0, 8)} {
			wantEven(t, s, committee, nil, passes)
			wantEven(t, s, committee, []phragmen.Share{}, passes)
			wantEven(t, api.Snapshot{}, committee, nil, passes)
			wantEven(t, api.Snapshot{Voters: []api.Voter{}, Candidates: []int{}}, committee, []phragmen.Share{}, passes)
		}
	}
	// The voter 5 has a stake of 0: it takes back what it gave.
	poor := append(slices.Clone(shares), share(5, 1, small(9, 2)), share(5, 2, small(0, 1)))
	wantEven(t, s, []int{1, 2}, poor, 1, rat(3, 4), rat(13, 4), rat(2, 1), rat(0, 1), rat(0, 1))
	wantEven(t, s, []int{1, 2}, poor, 2, rats(3, 1, 2, 0, 0)...)
}

// P12.2: the voters have their turns in the order of the snapshot, and the
// shares are returned in their own.
func TestOrder(t *testing.T) {
	shares := []phragmen.Share{share(1, 10, small(1, 1)), share(1, 11, small(0, 1)), share(2, 11, small(5, 1)), share(2, 12, small(0, 1)), share(3, 12, small(1, 1))}
	who := []api.Voter{voter(1, 4, 10), voter(2, 5), voter(3, 2)}
	// In the order 1, 2, 3: 1 gives 4 to 10, as 11 has 5; 2 gives 3 to 11 and
	// 2 to 12, which has 1; 3 gives 2.
	wantEven(t, snapshot(nil, who...), from(10, 3), shares, 1, rats(4, 0, 3, 2, 2)...)
	// In the order 3, 2, 1: 2 gives 7/2 to 11 and 3/2 to 12, which has 2.
	wantEven(t, snapshot(nil, who[2], who[1], who[0]), from(10, 3), shares, 1, rat(15, 4), rat(1, 4), rat(7, 2), rat(3, 2), rat(2, 1))
	permuted(3, func(turns []int) {
		s := snapshot([]int{11}, who[turns[0]], who[turns[1]], who[turns[2]])
		for passes := range api.MaxPasses + 1 {
			want := plainEven(s, shares, passes)
			permuted(len(shares), func(order []int) {
				var given []phragmen.Share
				var wanted []*big.Rat
				for _, i := range order {
					given, wanted = append(given, shares[i]), append(wanted, want[i])
				}
				if passes < 2 || order[0] == 4 {
					wantEven(t, s, from(10, 3), given, passes, wanted...)
				}
			})
		}
	})
}

// malformed returns snapshots with one fault each, in which the example's
// voters are, and shares may be given.
func malformed() map[string]api.Snapshot {
	with := func(more ...api.Voter) api.Snapshot {
		s, _ := example()
		s.Voters = append(s.Voters, more...)
		return s
	}
	among := func(list ...int) api.Snapshot {
		s, _ := example()
		s.Candidates = list
		return s
	}
	var crowd []api.Voter
	for _, id := range from(10, 29) {
		crowd = append(crowd, voter(id, 1, 1))
	}
	return map[string]api.Snapshot{
		"33 voters":             with(crowd...),
		"voter -1":              with(voter(-1, 1, 1)),
		"voter 2^31":            with(voter(greatest+1, 1, 1)),
		"a number twice":        with(voter(7, 1, 1)),
		"9 picks":               with(voter(9, 1, from(0, 9)...)),
		"pick -1":               with(voter(9, 1, -1, 1)),
		"pick 2^31":             with(voter(9, 1, 1, greatest+1)),
		"equal picks":           with(voter(9, 1, 1, 1)),
		"descending picks":      with(voter(9, 0, 2, 1)),
		"stakes of 2^64":        with(voter(9, most-10, 1)),
		"33 candidates":         among(from(0, 33)...),
		"candidate -1":          among(-1, 1, 2),
		"candidate 2^31":        among(1, 2, greatest+1),
		"equal candidates":      among(1, 1, 2),
		"descending candidates": among(2, 1),
	}
}

// P12.2: each reason for ErrArg by itself.
func TestEvenErrors(t *testing.T) {
	s, shares := example()
	committee := []int{1, 2}
	refused := func(s api.Snapshot, committee []int, shares []phragmen.Share) {
		t.Helper()
		for _, passes := range []int{math.MinInt, -1, 0, 1, 4, 5, math.MaxInt} {
			wantNotEven(t, s, committee, shares, passes, api.ErrArg)
		}
	}
	for _, passes := range []int{math.MinInt, math.MinInt32, -4, -1, 5, 6, 1 << 32, math.MaxInt} {
		wantNotEven(t, s, committee, shares, passes, api.ErrArg)
		wantNotEven(t, s, nil, nil, passes, api.ErrArg)
		wantNotEven(t, api.Snapshot{}, nil, nil, passes, api.ErrArg)
	}
	for _, bad := range malformed() {
		refused(bad, committee, shares)
		refused(bad, committee, nil)
		refused(bad, nil, nil)
	}
	for _, members := range [][]int{{1, 1, 2}, {1, 2, 1}, {2, 1, 1}, {1, 2, 5, 6, 7, 8, 9, 5}, {2, 1, -1, -1}, from(1, 9), from(1, 100), append(from(1, 8), 8)} {
		refused(s, members, shares)
		refused(s, members, nil)
		refused(api.Snapshot{}, members, nil)
	}
	// Members that there are not.
	for _, members := range [][]int{nil, {}, {1}, {2}, {0, 3}, {2, 3, 4, 5, 6, 7, 8, 9}} {
		refused(s, members, shares)
	}
	wantEven(t, s, []int{9, 8, 2, 7, 6, 5, 1, 0}, shares, 1, rats(3, 1, 2)...)
}

// P12.2: shares that may not be given, by themselves and together with others,
// at each place.
func TestShareErrors(t *testing.T) {
	s, shares := example()
	long := []phragmen.Share{share(8, 1, part(full(201))), share(5, 1, part(power(201)))}
	bad := []phragmen.Share{share(7, 3, small(1, 1)), share(7, 0, small(1, 1)), share(7, -1, small(1, 1)), share(7, math.MaxInt, small(1, 1)),
		share(9, 1, small(1, 1)), share(-7, 1, small(1, 1)), share(math.MinInt, 1, small(1, 1)), share(0, 2, small(0, 1)), share(2, 1, small(1, 1)),
		share(7, 1, small(1, 1)), share(7, 2, small(1, 1)), share(8, 2, small(0, 1))}
	for _, weight := range illFormed() {
		bad = append(bad, share(6, 2, weight), share(7, 3, weight), share(9, 9, weight))
	}
	for _, one := range bad {
		for _, others := range [][]phragmen.Share{shares, append(slices.Clone(shares), long...)} {
			for place := range len(others) + 1 {
				for passes := range api.MaxPasses + 2 {
					wantNotEven(t, s, []int{1, 2}, slices.Insert(slices.Clone(others), place, one), passes, api.ErrArg)
				}
			}
		}
	}
	wantNotEven(t, api.Snapshot{}, []int{1, 2}, shares, 1, api.ErrArg)
	wantNotEven(t, snapshot([]int{1}), []int{1}, []phragmen.Share{share(0, 1, small(1, 1))}, 1, api.ErrArg)
}

// crowd returns as many voters as there may be, of which each gives to each of
// as many members as there may be.
func crowd() (api.Snapshot, []int, []phragmen.Share) {
	var s api.Snapshot
	var shares []phragmen.Share
	committee := from(20, api.MaxSeats)
	for i := range api.MaxVoters {
		s.Voters = append(s.Voters, voter(50-i, uint64(1+i*i), committee...))
		for k := range committee {
			shares = append(shares, share(50-(i+k)%32, committee[k], small(uint64(i), 1)))
		}
	}
	return s, committee, shares
}

// P12.2: as many shares as there may be, of a voter and in all.
func TestManyShares(t *testing.T) {
	s, committee, shares := crowd()
	if len(shares) != api.MaxVoters*api.MaxPicks {
		t.Fatalf("%d shares", len(shares))
	}
	for passes := range api.MaxPasses + 1 {
		wantEvenly(t, s, committee, shares, passes)
	}
	// One more has a voter, a candidate or both again, if it is known.
	for _, one := range []phragmen.Share{share(50, 20, small(1, 1)), share(50, 28, small(1, 1)), share(18, 20, small(1, 1)), shares[255]} {
		for passes := range 2 {
			wantNotEven(t, s, committee, append(slices.Clone(shares), one), passes, api.ErrArg)
		}
	}
	wantNotEven(t, s, append(committee, 28), append(slices.Clone(shares), share(50, 28, small(1, 1))), 1, api.ErrArg)
	// A voter with MaxPicks shares, and with one more.
	own := slices.DeleteFunc(slices.Clone(shares), func(one phragmen.Share) bool { return one.Voter != 40 })
	if len(own) != api.MaxPicks {
		t.Fatalf("%d shares", len(own))
	}
	wantEven(t, s, committee, own, 1, slices.Repeat([]*big.Rat{rat(101, 8)}, 8)...)
	for _, candidate := range []int{19, 20, 27, 28} {
		wantNotEven(t, s, committee, append(slices.Clone(own), share(40, candidate, small(1, 1))), 1, api.ErrArg)
		wantNotEven(t, s, append(slices.Clone(committee), candidate), append(slices.Clone(own), share(40, candidate, small(1, 1))), 1, api.ErrArg)
	}
}

// P12.2: the least and the greatest stakes.
func TestStakes(t *testing.T) {
	s := snapshot(nil, voter(0, most-1), voter(greatest, 1))
	shares := []phragmen.Share{share(0, 1, small(0, 1)), share(greatest, 2, small(0, 1)), share(0, 2, small(0, 1)), share(greatest, 1, small(0, 1))}
	wantEven(t, s, []int{1, 2}, shares, 1, rat(most/2, 1), rat(1, 2), rat(most/2, 1), rat(1, 2))
	wantEven(t, s, []int{1, 2}, shares[:3], 1, rat(most/2, 1), rat(1, 1), rat(most/2, 1))
	wantEven(t, s, []int{1, 2}, shares[:3], 2, rat(most, 2), rat(1, 1), rat(most-2, 2))
	wantEven(t, snapshot(nil, voter(0, most)), []int{1}, shares[:1], 4, rat(most, 1))
	wantEvenly(t, snapshot(nil, voter(greatest, 1<<63-1), voter(0, 1<<63)), []int{2, 1}, shares, 4)
}

// P12.2: sums that are too long, in the first turn and in later ones.
func TestLongTurns(t *testing.T) {
	who := []api.Voter{voter(1, 4), voter(2, 5), voter(3, 6), voter(4, 7), voter(5, 8), voter(6, 9)}
	s := snapshot(nil, who...)
	// The supports of one turn.
	shares := []phragmen.Share{share(1, 1, small(1, 1)), share(2, 2, small(1, 1)), share(2, 3, small(1, 1)),
		share(3, 2, part(full(201))), share(4, 3, part(power(201)))}
	wantEvenly(t, s, []int{1, 2, 3}, shares, 0)
	for passes := 1; passes <= api.MaxPasses; passes++ {
		wantNotEven(t, s, []int{1, 2, 3}, shares, passes, api.ErrLong)
		wantNotEven(t, s, []int{1, 2, 3}, shares[1:], passes, api.ErrLong)
		// Not if one of the two has its turn before.
		for _, first := range []int{2, 3} {
			wantEvenly(t, snapshot(nil, append([]api.Voter{who[first]}, slices.Delete(slices.Clone(who), first, first+1)...)...), []int{1, 2, 3}, shares, passes)
		}
	}
	// What is given to one candidate.
	shares = []phragmen.Share{share(1, 1, small(1, 1)), share(2, 2, small(1, 1)), share(3, 2, part(full(201))), share(4, 2, part(power(201)))}
	for passes := 1; passes <= api.MaxPasses; passes++ {
		wantNotEven(t, s, []int{1, 2, 3}, shares, passes, api.ErrLong)
	}
	// What nobody gives that has its turn then isn't added.
	wantEvenly(t, snapshot(nil, who[2], who[0], who[1], who[3]), []int{1, 2}, shares, 1)
	shares[1].Candidate = 3
	wantEvenly(t, s, []int{1, 2, 3}, shares[:3], 1)
}

// P12.2: sums that are too long not before the second pass: 2 and 4 come to
// give fractions with long denominators to 2 and 1, which meet when 1 has its
// turn again.
func TestLongPass(t *testing.T) {
	s := snapshot(nil, voter(1, 4), voter(2, 5), voter(4, 7), voter(3, 6), voter(5, 8))
	shares := []phragmen.Share{share(1, 1, small(1, 1)), share(1, 2, small(1, 1)), share(2, 2, small(1, 1)), share(2, 3, small(1, 1)),
		share(3, 3, part(full(150))), share(4, 1, small(3, 1)), share(4, 4, small(4, 1)), share(5, 4, part(power(251)))}
	wantEvenly(t, s, from(1, 4), shares, 0)
	wantEvenly(t, s, from(1, 4), shares, 1)
	for passes := 2; passes <= api.MaxPasses; passes++ {
		wantNotEven(t, s, from(1, 4), shares, passes, api.ErrLong)
	}
}

// someShares returns a random snapshot, a committee, and shares of some of its
// voters.
func someShares(r *rand.Rand) (api.Snapshot, []int, []phragmen.Share) {
	var s api.Snapshot
	var shares []phragmen.Share
	committee := r.Perm(12)[:r.Intn(api.MaxSeats+1)]
	for _, id := range r.Perm(20)[:r.Intn(9)] {
		v := voter(id, r.Uint64()>>3>>r.Intn(62))
		for _, candidate := range committee {
			if r.Intn(3) > 0 {
				shares = append(shares, share(id, candidate, someRatio(r)))
			}
		}
		s.Voters = append(s.Voters, v)
	}
	r.Shuffle(len(shares), func(i, k int) { shares[i], shares[k] = shares[k], shares[i] })
	return s, committee, shares
}

// P12.2: random shares, held against the plain reckoning.
func TestManyPasses(t *testing.T) {
	r := rand.New(rand.NewSource(4))
	for range 300 {
		s, committee, shares := someShares(r)
		wantEvenly(t, s, committee, shares, r.Intn(api.MaxPasses+1))
	}
}

// P12.2, P12.3: what is elected, made even: each voter gives its stake, and the
// least support does not decrease.
func TestElectedAreEven(t *testing.T) {
	r := rand.New(rand.NewSource(5))
	for range 60 {
		s := api.Snapshot{Candidates: from(0, 10)}
		for id := range 1 + r.Intn(10) {
			picks := r.Perm(12)[:r.Intn(api.MaxPicks+1)]
			slices.Sort(picks)
			s.Voters = append(s.Voters, voter(id, r.Uint64()>>4>>r.Intn(60), picks...))
		}
		seats, shares, _ := phragmen.Elect(s, r.Intn(api.MaxSeats+1))
		var committee []int
		for _, seat := range seats {
			committee = append(committee, seat.Candidate)
		}
		var before *big.Rat
		for passes := range api.MaxPasses + 1 {
			wantEvenly(t, s, committee, shares, passes)
			even, _ := Even(s, committee, shares, passes)
			checkStakes(t, s, even)
			least := leastSupport(committee, even)
			if before != nil && least.Cmp(before) < 0 {
				t.Errorf("%v: %d passes: the least support is %v after %v", s, passes, least, before)
			}
			before = least
		}
	}
}

func checkStakes(t *testing.T, s api.Snapshot, shares []phragmen.Share) {
	t.Helper()
	for _, v := range s.Voters {
		given, sum := 0, new(big.Rat)
		for _, one := range shares {
			if one.Voter == v.ID {
				given++
				sum.Add(sum, toRat(one.Weight))
			}
		}
		if given > 0 && sum.Cmp(rat(v.Stake, 1)) != 0 {
			t.Errorf("%v: the voter %d gives %v", s, v.ID, sum)
		}
	}
}

// leastSupport returns the least support of a committee, and nil if it has no
// members.
func leastSupport(committee []int, shares []phragmen.Share) *big.Rat {
	var least *big.Rat
	for _, member := range committee {
		sum := new(big.Rat)
		for _, one := range shares {
			if one.Candidate == member {
				sum.Add(sum, toRat(one.Weight))
			}
		}
		if least == nil || sum.Cmp(least) < 0 {
			least = sum
		}
	}
	return least
}
