package whole

import (
	"math"
	"math/big"
	"math/rand"
	"slices"
	"testing"

	"psephos/api"
	"psephos/limb"
	"psephos/phragmen"
	"psephos/ratio"
)

func share(voter, candidate int, weight ratio.Ratio) phragmen.Share {
	return phragmen.Share{Voter: voter, Candidate: candidate, Weight: weight}
}

func edge(voter, candidate int, weight uint64) api.Edge {
	return api.Edge{Voter: voter, Candidate: candidate, Weight: weight}
}

// from returns a voter's shares of candidates from 1 on.
func from(voter int, weights ...ratio.Ratio) []phragmen.Share {
	var out []phragmen.Share
	for i, weight := range weights {
		out = append(out, share(voter, i+1, weight))
	}
	return out
}

// beyond returns n + num / den for n of 2^64.
func beyond(num, den int64) ratio.Ratio {
	return fromRat(plus(new(big.Rat).SetInt(toBig(power(2))), big.NewRat(num, den)))
}

// plainEdges asks one voter after the other, from the least one on, for the
// candidates, from the least one on.
func plainEdges(shares []phragmen.Share) []api.Edge {
	given := map[int]map[int]*big.Rat{}
	var voters []int
	for _, s := range shares {
		if given[s.Voter] == nil {
			given[s.Voter] = map[int]*big.Rat{}
			voters = append(voters, s.Voter)
		}
		given[s.Voter][s.Candidate] = toRat(s.Weight)
	}
	slices.Sort(voters)
	var list []api.Edge
	for _, voter := range voters {
		var candidates []int
		for candidate := range given[voter] {
			candidates = append(candidates, candidate)
		}
		slices.Sort(candidates)
		var weights []*big.Rat
		for _, candidate := range candidates {
			weights = append(weights, given[voter][candidate])
		}
		for i, n := range plainRound(weights) {
			if n.Sign() > 0 {
				list = append(list, edge(voter, candidates[i], n.Uint64()))
			}
		}
	}
	return list
}

// wantEdges holds edges against what is wanted, and that against the plain
// reckoning.
func wantEdges(t *testing.T, shares []phragmen.Share, want ...api.Edge) {
	t.Helper()
	if got, e := Edges(shares); e != api.OK || !slices.Equal(got, want) {
		t.Errorf("Edges(%v): %v, %v, wanted %v", shares, got, e, want)
	}
	if plain := plainEdges(shares); !slices.Equal(plain, want) {
		t.Errorf("Edges(%v): %v wanted, and %v by the plain reckoning", shares, want, plain)
	}
}

func wantPlainEdges(t *testing.T, shares []phragmen.Share) {
	t.Helper()
	wantEdges(t, shares, plainEdges(shares)...)
}

// wantNoEdges holds what is refused.
func wantNoEdges(t *testing.T, shares []phragmen.Share, want api.Errno) {
	t.Helper()
	if got, e := Edges(shares); e != want || got != nil {
		t.Errorf("Edges(%v): %v, %v, wanted %v", shares, got, e, want)
	}
}

// P13.1: each voter's weights are rounded by themselves.
func TestEdges(t *testing.T) {
	wantEdges(t, nil)
	wantEdges(t, []phragmen.Share{})
	wantEdges(t, from(7, small(1, 1)), edge(7, 1, 1))
	wantEdges(t, from(7, small(12, 7), small(9, 7)), edge(7, 1, 2), edge(7, 2, 1))
	both := append(from(7, small(1, 2), small(3, 2)), from(8, small(1, 2))...)
	wantEdges(t, both, edge(7, 1, 1), edge(7, 2, 1))
	both = append(from(7, small(1, 2), small(4, 3)), from(8, small(2, 3), small(1, 2), small(5, 6))...)
	wantEdges(t, both, edge(7, 2, 1), edge(8, 1, 1), edge(8, 3, 1))
}

// P13.1: what rounds to 0 is no edge.
func TestNoEdges(t *testing.T) {
	for _, weight := range []ratio.Ratio{small(0, 1), {Num: limb.Nat{}, Den: limb.Of(1)}, small(1, 2), small(most-1, most), part(full(399))} {
		wantEdges(t, from(7, weight))
		wantEdges(t, append(from(7, weight), from(8, weight)...))
		wantEdges(t, append(from(7, weight, small(5, 1)), from(8, weight)...), edge(7, 2, 5))
		wantEdges(t, append(from(8, small(3, 1), weight), from(7, weight)...), edge(8, 1, 3))
	}
	wantEdges(t, from(7, small(0, 1), small(0, 1), small(0, 1)))
	wantEdges(t, from(7, small(1, 3), small(0, 1), small(1, 3), small(1, 3)), edge(7, 1, 1))
}

// P13.1: in ascending order of the voters, then of the candidates, whatever
// the order of the shares; of those from whose weights as much was cut off the
// ones with the least candidates get the units.
func TestOrder(t *testing.T) {
	list := []phragmen.Share{share(5, -3, small(2, 3)), share(5, 2, small(5, 3)), share(5, 9, small(2, 3)),
		share(-1, 9, small(1, 2)), share(-1, 2, small(7, 2)), share(6, 2, small(4, 1))}
	permuted(len(list), func(order []int) {
		wantEdges(t, taken(list, order), edge(-1, 2, 4), edge(5, -3, 1), edge(5, 2, 2), edge(6, 2, 4))
	})
}

// P13.1: any numbers of voters and candidates.
func TestNumbers(t *testing.T) {
	ids := []int{math.MinInt, math.MinInt + 1, -7, -1, 0, 1, 8, math.MaxInt - 1, math.MaxInt}
	var shares []phragmen.Share
	var want []api.Edge
	for i, voter := range ids {
		for k, candidate := range ids {
			shares = append(shares, share(voter, candidate, small(uint64(2*(i+k))+1, 2)))
			// Nine halves make four units.
			unit := uint64(0)
			if k < 4 {
				unit = 1
			}
			if n := uint64(i+k) + unit; n > 0 {
				want = append(want, edge(voter, candidate, n))
			}
		}
	}
	wantEdges(t, shares, want...)
	slices.Reverse(shares)
	wantEdges(t, shares, want...)
	r := rand.New(rand.NewSource(3))
	r.Shuffle(len(shares), func(i, j int) { shares[i], shares[j] = shares[j], shares[i] })
	wantEdges(t, shares, want...)
}

// grid returns shares of so many voters and candidates.
func grid(voters, candidates int, weight ratio.Ratio) []phragmen.Share {
	var out []phragmen.Share
	for v := range voters {
		for c := range candidates {
			out = append(out, share(v, c, weight))
		}
	}
	return out
}

// P13.1: as many shares as there may be, and one more.
func TestManyShares(t *testing.T) {
	for _, c := range [][2]int{{32, 8}, {8, 32}, {1, 256}, {256, 1}, {16, 16}} {
		for _, weight := range fractions(7, 1, 5, 3, 0, 1) {
			shares := grid(c[0], c[1], weight)
			wantPlainEdges(t, shares)
			wantNoEdges(t, append(slices.Clone(shares), share(0, 300, weight)), api.ErrArg)
			wantNoEdges(t, append(slices.Clone(shares), share(300, 0, weight)), api.ErrArg)
		}
		wantPlainEdges(t, grid(c[0], c[1], small(7, 2))[:255])
	}
	wantNoEdges(t, grid(257, 1, small(0, 1)), api.ErrArg)
	wantNoEdges(t, grid(100, 100, small(0, 1)), api.ErrArg)
	wantNoEdges(t, grid(257, 1, whole(power(2))), api.ErrArg)
	wantNoEdges(t, grid(1, 257, whole(full(400))), api.ErrArg)
}

// P13.1: a weight that is not well formed is refused at each place, whatever
// else there is.
func TestIllFormedShares(t *testing.T) {
	long := from(3, part(full(201)), part(power(201)))
	great := from(4, whole(power(2)), small(1, 1))
	for _, bad := range illFormed() {
		for _, others := range [][]phragmen.Share{nil, from(5, small(1, 2)), append(from(9, small(1, 2), small(1, 2)), from(2, small(5, 1))...), long, great, append(slices.Clone(great), long...)} {
			for place := range len(others) + 1 {
				for _, one := range []phragmen.Share{share(1, 8, bad), share(4, 8, bad), share(5, 8, bad)} {
					wantNoEdges(t, slices.Insert(slices.Clone(others), place, one), api.ErrArg)
				}
			}
		}
	}
}

// P13.1: two shares of the same voter and candidate, next to each other and
// apart, are refused.
func TestSameShares(t *testing.T) {
	for _, list := range [][]phragmen.Share{
		from(7, small(1, 1)), grid(3, 4, small(1, 2)), append(from(7, small(3, 1), small(2, 1)), from(2, small(0, 1))...),
		from(3, part(full(201)), part(power(201))), from(4, whole(power(2)), small(1, 1)), grid(51, 5, small(1, 3)),
	} {
		for _, again := range list {
			for place := range len(list) + 1 {
				for _, weight := range []ratio.Ratio{again.Weight, small(0, 1), small(7, 3)} {
					wantNoEdges(t, slices.Insert(slices.Clone(list), place, share(again.Voter, again.Candidate, weight)), api.ErrArg)
				}
			}
			if len(list) > 50 {
				break
			}
		}
	}
	// Only one of the two is the same.
	wantEdges(t, append(from(7, small(1, 1), small(2, 1)), from(8, small(3, 1), small(4, 1))...),
		edge(7, 1, 1), edge(7, 2, 2), edge(8, 1, 3), edge(8, 2, 4))
}

// P13.1: a voter's sum that is too long, whichever voter's, is told ahead of a
// weight that is too great.
func TestLongShares(t *testing.T) {
	long := [][]ratio.Ratio{{part(full(201)), part(power(201))}, {whole(full(400)), small(1, 1)}, {small(1, 2), small(1, 2), whole(full(400)), whole(full(400))}}
	others := [][]phragmen.Share{nil, from(5, small(3, 2)), append(from(2, small(1, 2)), from(9, small(8, 1), small(1, 1))...),
		from(2, whole(power(2))), from(9, whole(power(2))), append(from(1, whole(power(5))), from(9, whole(power(2)))...)}
	for _, weights := range long {
		for _, other := range others {
			wantNoEdges(t, append(slices.Clone(other), from(7, weights...)...), api.ErrLong)
			wantNoEdges(t, append(from(7, weights...), other...), api.ErrLong)
		}
	}
	// Of two voters these are not too long.
	wantEdges(t, append(from(1, part(full(201))), from(2, part(power(201)))...))
	wantNoEdges(t, append(from(1, whole(full(400))), from(2, small(1, 1))...), api.ErrRange)
	// In the order of the candidates the sum of the first two is whole.
	list := from(1, part(full(150)), rest(full(150)), part(full(390)))
	permuted(len(list), func(order []int) {
		wantEdges(t, taken(list, order), edge(1, 2, 1))
	})
	list = from(1, part(full(150)), part(full(390)), rest(full(150)))
	permuted(len(list), func(order []int) {
		wantNoEdges(t, taken(list, order), api.ErrLong)
	})
}

// P13.1: integer weights of 2^64 - 1, and of 2^64 or more.
func TestGreatShares(t *testing.T) {
	under := func(num, den int64) ratio.Ratio { return beyond(num-den, den) }
	wantEdges(t, from(7, whole(limb.Of(most))), edge(7, 1, most))
	wantEdges(t, from(7, under(1, 2)), edge(7, 1, most))
	wantEdges(t, from(7, under(99, 100), small(1, 200)), edge(7, 1, most))
	wantEdges(t, from(7, small(1, 2), under(1, 2)), edge(7, 1, 1), edge(7, 2, most))
	wantEdges(t, from(7, under(1, 3), small(2, 3)), edge(7, 1, most), edge(7, 2, 1))
	wantEdges(t, from(7, under(0, 1), under(0, 1), under(1, 2)), edge(7, 1, most), edge(7, 2, most), edge(7, 3, most))
	wantEdges(t, append(from(7, under(1, 2)), from(8, under(1, 2))...), edge(7, 1, most), edge(8, 1, most))
	for _, weights := range [][]ratio.Ratio{
		// By rounding down.
		{whole(power(2))}, {beyond(1, 2)}, {beyond(999, 1)}, {whole(full(400))}, {whole(power(50)), small(1, 2)}, {small(0, 1), small(1, 1), beyond(0, 1)},
		// By the unit.
		{under(1, 2), small(1, 2)}, {small(1, 3), under(2, 3)}, {small(1, 3), under(1, 3), under(1, 2), small(5, 6)}, {under(1, 2), under(1, 2)},
	} {
		wantNoEdges(t, from(7, weights...), api.ErrRange)
		wantNoEdges(t, append(from(7, weights...), from(8, small(1, 1))...), api.ErrRange)
		wantNoEdges(t, append(from(7, small(3, 2), small(5, 1)), from(8, weights...)...), api.ErrRange)
	}
}

// someShares returns shares of a few voters and candidates, in any order.
func someShares(r *rand.Rand) []phragmen.Share {
	var list []phragmen.Share
	for v := range 1 + r.Intn(6) {
		for c := range r.Intn(9) {
			weight := someRatio(r)
			if r.Intn(3) == 0 {
				weight = fromRat(big.NewRat(r.Int63n(9), 1+r.Int63n(4)))
			}
			list = append(list, share(v*v-4, 7*c%9-2, weight))
		}
	}
	r.Shuffle(len(list), func(i, j int) { list[i], list[j] = list[j], list[i] })
	return list
}

// P13.1: random shares, held against the plain reckoning. No one is 2^64 or
// more, even with a unit.
func TestManyEdges(t *testing.T) {
	r := rand.New(rand.NewSource(4))
	for range 1500 {
		wantPlainEdges(t, someShares(r))
	}
}

// someSnapshot returns a snapshot of up to so many voters and candidates.
func someSnapshot(r *rand.Rand, voters, candidates int, stake uint64) api.Snapshot {
	s := api.Snapshot{Candidates: r.Perm(2 * candidates)[:1+r.Intn(candidates)]}
	slices.Sort(s.Candidates)
	for _, id := range r.Perm(2 * voters)[:1+r.Intn(voters)] {
		picks := r.Perm(2 * candidates)
		picks = picks[:r.Intn(min(len(picks), api.MaxPicks)+1)]
		slices.Sort(picks)
		s.Voters = append(s.Voters, api.Voter{ID: id, Stake: r.Uint64() % stake, Picks: picks})
	}
	return s
}

// checkStakes checks that each voter that gives anything gives its stake.
func checkStakes(t *testing.T, s api.Snapshot, shares []phragmen.Share) {
	t.Helper()
	list, _ := Edges(shares)
	for _, v := range s.Voters {
		given, shared := uint64(0), false
		for _, e := range list {
			if e.Voter == v.ID {
				given += e.Weight
			}
		}
		for _, one := range shares {
			shared = shared || one.Voter == v.ID && len(one.Weight.Num) > 0
		}
		if shared && given != v.Stake {
			t.Errorf("Edges(%v): %d gives %d of %d", shares, v.ID, given, v.Stake)
		}
	}
}

// P13.1: shares as package phragmen elects them, held against the plain
// reckoning.
func TestElected(t *testing.T) {
	r := rand.New(rand.NewSource(5))
	elect := func(s api.Snapshot) {
		_, shares, e := phragmen.Elect(s, r.Intn(api.MaxSeats+1))
		if e != api.OK {
			t.Fatalf("Elect(%v): %v", s, e)
		}
		wantPlainEdges(t, shares)
		checkStakes(t, s, shares)
	}
	for range 300 {
		elect(someSnapshot(r, 6, 5, 9))
	}
	for range 100 {
		elect(someSnapshot(r, 8, 6, 10000))
	}
	for range 20 {
		elect(someSnapshot(r, 32, 32, 1<<59))
	}
}
