package phragmen

import (
	"math"
	"math/big"
	"math/rand"
	"slices"
	"testing"

	"psephos/api"
	"psephos/limb"
	"psephos/ratio"
)

const (
	most     = math.MaxUint64
	greatest = 1<<31 - 1
)

func voter(id int, stake uint64, picks ...int) api.Voter {
	return api.Voter{ID: id, Stake: stake, Picks: picks}
}

func snapshot(candidates []int, voters ...api.Voter) api.Snapshot {
	return api.Snapshot{Voters: voters, Candidates: candidates}
}

// from returns n numbers, one after the other.
func from(first, n int) []int {
	list := make([]int, n)
	for i := range list {
		list[i] = first + i
	}
	return list
}

// example is the snapshot of the chapter's example.
func example() api.Snapshot {
	return snapshot([]int{1, 2, 3}, voter(7, 3, 1, 2), voter(8, 1, 2))
}

func small(num, den uint64) ratio.Ratio {
	return ratio.Ratio{Num: limb.Of(num), Den: limb.Of(den)}
}

func rat(num, den uint64) *big.Rat {
	return new(big.Rat).SetFrac(new(big.Int).SetUint64(num), new(big.Int).SetUint64(den))
}

func toBig(a limb.Nat) *big.Int {
	n := new(big.Int)
	for i := len(a) - 1; i >= 0; i-- {
		n.Lsh(n, 32)
		n.Or(n, big.NewInt(int64(a[i])))
	}
	return n
}

func toRat(a ratio.Ratio) *big.Rat {
	return new(big.Rat).SetFrac(toBig(a.Num), toBig(a.Den))
}

// is reports whether a is well formed and is that fraction.
func is(a ratio.Ratio, want *big.Rat) bool {
	return ratio.Formed(a) && toBig(a.Num).Cmp(want.Num()) == 0 && toBig(a.Den).Cmp(want.Denom()) == 0
}

// plainSeat and plainShare are a Seat and a Share, reckoned by math/big.
type plainSeat struct {
	candidate int
	score     *big.Rat
}

type plainShare struct {
	voter, candidate int
	weight           *big.Rat
}

func plainApproves(s api.Snapshot, v api.Voter, candidate int) bool {
	return v.Stake > 0 && slices.Contains(v.Picks, candidate) && slices.Contains(s.Candidates, candidate)
}

// plainScore returns the score of a candidate, and nil if nobody approves it.
func plainScore(s api.Snapshot, loads []*big.Rat, candidate int) *big.Rat {
	above, below := big.NewRat(1, 1), new(big.Rat)
	for i, v := range s.Voters {
		if plainApproves(s, v, candidate) {
			above.Add(above, new(big.Rat).Mul(rat(v.Stake, 1), loads[i]))
			below.Add(below, rat(v.Stake, 1))
		}
	}
	if below.Sign() == 0 {
		return nil
	}
	return above.Quo(above, below)
}

// plainElect is the chapter's method, word for word, for a well formed
// snapshot.
func plainElect(s api.Snapshot, seats int) ([]plainSeat, []plainShare) {
	loads := make([]*big.Rat, len(s.Voters))
	edges := make([]map[int]*big.Rat, len(s.Voters))
	for i := range loads {
		loads[i], edges[i] = new(big.Rat), map[int]*big.Rat{}
	}
	var elected []plainSeat
	for len(elected) < seats {
		best := plainSeat{}
		for _, c := range s.Candidates {
			taken := slices.ContainsFunc(elected, func(p plainSeat) bool { return p.candidate == c })
			score := plainScore(s, loads, c)
			if !taken && score != nil && (best.score == nil || score.Cmp(best.score) < 0) {
				best = plainSeat{c, score}
			}
		}
		if best.score == nil {
			break
		}
		elected = append(elected, best)
		for i, v := range s.Voters {
			if plainApproves(s, v, best.candidate) {
				edges[i][best.candidate] = new(big.Rat).Sub(best.score, loads[i])
				loads[i] = best.score
			}
		}
	}
	return elected, plainShares(s, loads, edges)
}

func plainShares(s api.Snapshot, loads []*big.Rat, edges []map[int]*big.Rat) []plainShare {
	var list []plainShare
	for i, v := range s.Voters {
		for _, c := range s.Candidates {
			if edge, ok := edges[i][c]; ok {
				weight := new(big.Rat).Mul(rat(v.Stake, 1), edge)
				list = append(list, plainShare{v.ID, c, weight.Quo(weight, loads[i])})
			}
		}
	}
	return list
}

func sameSeats(got []Seat, want []plainSeat) bool {
	return slices.EqualFunc(got, want, func(a Seat, b plainSeat) bool {
		return a.Candidate == b.candidate && is(a.Score, b.score)
	})
}

func sameShares(got []Share, want []plainShare) bool {
	return slices.EqualFunc(got, want, func(a Share, b plainShare) bool {
		return a.Voter == b.voter && a.Candidate == b.candidate && is(a.Weight, b.weight)
	})
}

// wantElected holds an election against what is wanted.
func wantElected(t *testing.T, s api.Snapshot, seats int, elected []plainSeat, shares []plainShare) {
	t.Helper()
	gotElected, gotShares, e := Elect(s, seats)
	if e != api.OK {
		t.Errorf("Elect(%v, %d): %v", s, seats, e)
	}
	if !sameSeats(gotElected, elected) {
		t.Errorf("Elect(%v, %d): elected %v, wanted %v", s, seats, gotElected, elected)
	}
	if !sameShares(gotShares, shares) {
		t.Errorf("Elect(%v, %d): shares %v, wanted %v", s, seats, gotShares, shares)
	}
}

// wantPlainly holds an election against the plain reckoning, and returns it.
func wantPlainly(t *testing.T, s api.Snapshot, seats int) ([]Seat, []Share) {
	t.Helper()
	elected, shares := plainElect(s, seats)
	wantElected(t, s, seats, elected, shares)
	gotElected, gotShares, _ := Elect(s, seats)
	checkGiven(t, s, gotElected, gotShares)
	return gotElected, gotShares
}

// checkGiven checks P11.2, and that there is a share, greater than 0, for each
// voter and each elected candidate that it approves.
func checkGiven(t *testing.T, s api.Snapshot, elected []Seat, shares []Share) {
	t.Helper()
	for i := 1; i < len(elected); i++ {
		if toRat(elected[i].Score).Cmp(toRat(elected[i-1].Score)) < 0 {
			t.Errorf("%v: score %v after %v", s, elected[i], elected[i-1])
		}
	}
	for _, v := range s.Voters {
		sum, approved, given := new(big.Rat), 0, 0
		for _, seat := range elected {
			if plainApproves(s, v, seat.Candidate) {
				approved++
			}
		}
		for _, share := range shares {
			if share.Voter == v.ID {
				given++
				sum.Add(sum, toRat(share.Weight))
				if len(share.Weight.Num) == 0 {
					t.Errorf("%v: share of 0: %v", s, share)
				}
			}
		}
		if given != approved || (given > 0 && sum.Cmp(rat(v.Stake, 1)) != 0) {
			t.Errorf("%v: voter %d gives %v in %d shares, and approves %d", s, v.ID, sum, given, approved)
		}
	}
}

func candidates(elected []Seat) []int {
	var list []int
	for _, seat := range elected {
		list = append(list, seat.Candidate)
	}
	return list
}

func wantCandidates(t *testing.T, s api.Snapshot, seats int, want ...int) {
	t.Helper()
	elected, _ := wantPlainly(t, s, seats)
	if got := candidates(elected); !slices.Equal(got, want) {
		t.Errorf("Elect(%v, %d): elected %d, wanted %d", s, seats, got, want)
	}
}

// P11.1: the chapter's example, and who is elected for fewer seats.
func TestExample(t *testing.T) {
	wantElected(t, example(), 8,
		[]plainSeat{{2, rat(1, 4)}, {1, rat(7, 12)}},
		[]plainShare{{7, 1, rat(12, 7)}, {7, 2, rat(9, 7)}, {8, 2, rat(1, 1)}})
	wantElected(t, example(), 1,
		[]plainSeat{{2, rat(1, 4)}},
		[]plainShare{{7, 2, rat(3, 1)}, {8, 2, rat(1, 1)}})
	wantElected(t, example(), 0, nil, nil)
}

// P11.1, R5: what is refused.
func TestElectErrors(t *testing.T) {
	refused := func(name string, s api.Snapshot, seats int) {
		t.Helper()
		if elected, shares, e := Elect(s, seats); e != api.ErrArg || elected != nil || shares != nil {
			t.Errorf("%s, %d seats: %v, %v, %v", name, seats, elected, shares, e)
		}
	}
	for _, seats := range []int{math.MinInt, math.MinInt32, -9, -8, -1, 9, 10, 32, 1 << 32, math.MaxInt} {
		refused("example", example(), seats)
		refused("empty", api.Snapshot{}, seats)
	}
	for name, s := range malformed() {
		for _, seats := range []int{math.MinInt, -1, 0, 1, 2, 8, 9, math.MaxInt} {
			refused(name, s, seats)
		}
	}
}

// malformed returns snapshots with one fault each.
func malformed() map[string]api.Snapshot {
	with := func(more ...api.Voter) api.Snapshot {
		s := example()
		s.Voters = append(s.Voters, more...)
		return s
	}
	among := func(list ...int) api.Snapshot {
		return snapshot(list, example().Voters...)
	}
	var crowd []api.Voter
	for _, id := range from(10, 31) {
		crowd = append(crowd, voter(id, 1, 1))
	}
	return map[string]api.Snapshot{
		"33 voters":              with(crowd...),
		"voter -1":               with(voter(-1, 1, 1)),
		"voter 2^31":             with(voter(greatest+1, 1, 1)),
		"a number twice":         with(voter(7, 1, 1)),
		"9 picks":                with(voter(9, 1, from(0, 9)...)),
		"pick -1":                with(voter(9, 1, -1, 1)),
		"pick 2^31":              with(voter(9, 1, 1, greatest+1)),
		"equal picks":            with(voter(9, 1, 1, 1)),
		"descending picks":       with(voter(9, 1, 2, 1)),
		"picks of a stake of 0":  with(voter(9, 0, 2, 1)),
		"stakes of 2^64":         with(voter(9, most-3, 1)),
		"stakes of 2^65 - 2":     snapshot([]int{1}, voter(1, most, 1), voter(2, most, 1)),
		"33 candidates":          among(from(0, 33)...),
		"candidate -1":           among(-1, 1, 2),
		"candidate 2^31":         among(1, 2, greatest+1),
		"equal candidates":       among(1, 1, 2),
		"descending candidates":  among(2, 1),
		"only descending":        snapshot([]int{2, 1}),
		"only a voter of number": snapshot(nil, voter(-1, 0)),
	}
}

// crowded is a snapshot of which more candidates are supported than there can
// be seats.
func crowded() api.Snapshot {
	var list []api.Voter
	for i := range 12 {
		list = append(list, voter(40-i, uint64(5+i*i), from(i, 8)...))
	}
	return snapshot(from(0, 32), list...)
}

// P11.1: as many are elected as there are seats and supported candidates.
func TestSeats(t *testing.T) {
	lone := snapshot([]int{4}, voter(1, 5, 4))
	unsupported := snapshot([]int{1, 2}, voter(1, 0, 1, 2), voter(2, 5, 3), voter(3, 5))
	for _, c := range []struct {
		s         api.Snapshot
		supported int
	}{
		{api.Snapshot{}, 0}, {api.Snapshot{Voters: []api.Voter{}, Candidates: []int{}}, 0},
		{snapshot([]int{1, 2}), 0}, {snapshot(nil, voter(1, 5, 1)), 0},
		{unsupported, 0}, {lone, 1}, {example(), 2}, {crowded(), 19},
	} {
		for seats := 0; seats <= api.MaxSeats; seats++ {
			elected, shares := wantPlainly(t, c.s, seats)
			if len(elected) != min(seats, c.supported) || (len(elected) == 0) != (len(shares) == 0) {
				t.Errorf("Elect(%v, %d): %v and %v", c.s, seats, elected, shares)
			}
		}
	}
}

// P11.1: of several with the least score the least number is elected.
func TestTies(t *testing.T) {
	wantCandidates(t, snapshot([]int{4, 5}, voter(1, 1, 4, 5)), 1, 4)
	wantCandidates(t, snapshot([]int{4, 5}, voter(1, 1, 4, 5)), 2, 4, 5)
	wantCandidates(t, snapshot(from(0, 9), voter(1, 7, from(1, 8)...)), 8, from(1, 8)...)
	// Whichever of them the voters, or their numbers, begin with.
	wantCandidates(t, snapshot([]int{4, 5}, voter(1, 6, 5), voter(2, 6, 4)), 2, 4, 5)
	wantCandidates(t, snapshot([]int{4, 5}, voter(2, 6, 4), voter(1, 6, 5)), 2, 4, 5)
	wantCandidates(t, snapshot([]int{0, 1, greatest}, voter(9, 3, greatest), voter(8, 3, 1), voter(7, 3, 0)), 3, 0, 1, greatest)
	// Of several approvers together.
	wantCandidates(t, snapshot([]int{4, 5}, voter(1, 6, 5), voter(2, 2, 4), voter(3, 4, 4)), 2, 4, 5)
	// In later rounds: 9 has the least score, then the others are alike.
	wantCandidates(t, snapshot([]int{2, 3, 9}, voter(1, 5, 9), voter(2, 1, 3), voter(3, 1, 2)), 3, 9, 2, 3)
	wantCandidates(t, snapshot([]int{2, 3, 4, 9}, voter(1, 5, 4, 9), voter(2, 5, 3, 9), voter(3, 5, 2, 9)), 4, 9, 2, 3, 4)
	// Alike by different ways: 1 without a load, and 2 with the load 1/3 of
	// one of its approvers: 1/2 = (1 + 1/3 * 3)/4.
	wantElected(t, snapshot([]int{1, 2, 3}, voter(1, 2, 1), voter(2, 3, 2, 3), voter(3, 1, 2)), 2,
		[]plainSeat{{2, rat(1, 4)}, {1, rat(1, 2)}},
		[]plainShare{{1, 1, rat(2, 1)}, {2, 2, rat(3, 1)}, {3, 2, rat(1, 1)}})
	wantElected(t, snapshot([]int{1, 2, 3}, voter(1, 2, 2), voter(2, 3, 1, 3), voter(3, 3, 3)), 3,
		[]plainSeat{{3, rat(1, 6)}, {1, rat(1, 2)}, {2, rat(1, 2)}},
		[]plainShare{{1, 2, rat(2, 1)}, {2, 1, rat(2, 1)}, {2, 3, rat(1, 1)}, {3, 3, rat(3, 1)}})
	wantElected(t, snapshot([]int{1, 2, 3}, voter(1, 2, 1), voter(2, 3, 2, 3), voter(3, 3, 3)), 3,
		[]plainSeat{{3, rat(1, 6)}, {1, rat(1, 2)}, {2, rat(1, 2)}},
		[]plainShare{{1, 1, rat(2, 1)}, {2, 2, rat(2, 1)}, {2, 3, rat(1, 1)}, {3, 3, rat(3, 1)}})
}

// P11.1: loads decide, not stakes alone.
func TestLoads(t *testing.T) {
	// 3 has less stake than 2, but its voter has no load when 2 is held
	// against it: 1/4 and (1 + 5/5)/5.
	wantElected(t, snapshot([]int{1, 2, 3}, voter(1, 5, 1, 2), voter(2, 4, 3)), 3,
		[]plainSeat{{1, rat(1, 5)}, {3, rat(1, 4)}, {2, rat(2, 5)}},
		[]plainShare{{1, 1, rat(5, 2)}, {1, 2, rat(5, 2)}, {2, 3, rat(4, 1)}})
	// Voters that approve the same ones are as one voter.
	wantElected(t, snapshot([]int{1, 2}, voter(1, 2, 1, 2), voter(2, 4, 1, 2), voter(3, 2, 1, 2)), 2,
		[]plainSeat{{1, rat(1, 8)}, {2, rat(1, 4)}},
		[]plainShare{{1, 1, rat(1, 1)}, {1, 2, rat(1, 1)}, {2, 1, rat(2, 1)}, {2, 2, rat(2, 1)},
			{3, 1, rat(1, 1)}, {3, 2, rat(1, 1)}})
	// A load is the latest score, also of one with many seats.
	wantElected(t, snapshot(from(1, 4), voter(6, 1, from(1, 4)...)), 4,
		[]plainSeat{{1, rat(1, 1)}, {2, rat(2, 1)}, {3, rat(3, 1)}, {4, rat(4, 1)}},
		[]plainShare{{6, 1, rat(1, 4)}, {6, 2, rat(1, 4)}, {6, 3, rat(1, 4)}, {6, 4, rat(1, 4)}})
}

// P11.1: stakes of 0 and picks of none are as if they were not there.
func TestNoApproval(t *testing.T) {
	wantElected(t, snapshot([]int{1, 2, 3}, voter(1, 0, 1, 2), voter(7, 3, 1, 2, 4), voter(2, 0, 3), voter(8, 1, 0, 2, 9), voter(3, 5, 0, 4)), 8,
		[]plainSeat{{2, rat(1, 4)}, {1, rat(7, 12)}},
		[]plainShare{{7, 1, rat(12, 7)}, {7, 2, rat(9, 7)}, {8, 2, rat(1, 1)}})
	wantElected(t, snapshot([]int{1, 2}, voter(1, 0, 1), voter(2, 1, 2)), 2,
		[]plainSeat{{2, rat(1, 1)}}, []plainShare{{2, 2, rat(1, 1)}})
	wantElected(t, snapshot([]int{2}, voter(1, 9, 1), voter(2, 1, 2)), 2,
		[]plainSeat{{2, rat(1, 1)}}, []plainShare{{2, 2, rat(1, 1)}})
}

// P11.1: shares are in the order of the voters in the snapshot, those of each
// in ascending order of candidates, whoever was elected first.
func TestOrderOfShares(t *testing.T) {
	s := snapshot([]int{1, 2, 3}, voter(greatest, 1, 1, 2, 3), voter(5, 2, 3), voter(0, 2, 2, 3), voter(9, 4, 3))
	elected, shares := wantPlainly(t, s, 3)
	if got := candidates(elected); !slices.Equal(got, []int{3, 2, 1}) {
		t.Errorf("elected %d", got)
	}
	var got [][2]int
	for _, share := range shares {
		got = append(got, [2]int{share.Voter, share.Candidate})
	}
	want := [][2]int{{greatest, 1}, {greatest, 2}, {greatest, 3}, {5, 3}, {0, 2}, {0, 3}, {9, 3}}
	if !slices.Equal(got, want) {
		t.Errorf("shares %d, wanted %d", got, want)
	}
}

// P11.1: the least and the greatest stakes.
func TestStakes(t *testing.T) {
	wantElected(t, snapshot([]int{1, 2}, voter(1, most, 1, 2)), 2,
		[]plainSeat{{1, rat(1, most)}, {2, rat(2, most)}},
		[]plainShare{{1, 1, rat(most, 2)}, {1, 2, rat(most, 2)}})
	wantElected(t, snapshot([]int{1}, voter(1, 1<<63, 1), voter(2, 1<<63-1, 1)), 1,
		[]plainSeat{{1, rat(1, most)}},
		[]plainShare{{1, 1, rat(1<<63, 1)}, {2, 1, rat(1<<63-1, 1)}})
	wantElected(t, snapshot([]int{1, 2}, voter(1, 1, 1), voter(2, most-1, 2)), 2,
		[]plainSeat{{2, rat(1, most-1)}, {1, rat(1, 1)}},
		[]plainShare{{1, 1, rat(1, 1)}, {2, 2, rat(most-1, 1)}})
	wantPlainly(t, snapshot([]int{1, 2, 3}, voter(1, 1, 1, 2), voter(2, most-3, 2, 3), voter(3, 1, 1, 3), voter(4, 1, 2)), 3)
	wantPlainly(t, snapshot(from(0, 8), voter(3, most, from(0, 8)...)), 8)
}

// great returns 32 voters with eight picks each and stakes of some 58 bits, of
// which few divide another sum of them.
func great(r *rand.Rand) api.Snapshot {
	s := snapshot(from(0, 32))
	for id := range 32 {
		stake := uint64(1)<<58 + uint64(r.Int63n(1<<57))<<1 + 1
		picks := r.Perm(32)[:8]
		slices.Sort(picks)
		s.Voters = append(s.Voters, voter(id, stake, picks...))
	}
	return s
}

// P11.1: nothing is too long, and all is exact.
func TestLongest(t *testing.T) {
	r := rand.New(rand.NewSource(11))
	longest := 0
	for range 12 {
		elected, _ := wantPlainly(t, great(r), 8)
		for _, seat := range elected {
			longest = max(longest, len(seat.Score.Den))
		}
	}
	if longest < 14 {
		t.Errorf("the longest denominator has %d limbs only", longest)
	}
	same := great(r)
	for i := range same.Voters {
		same.Voters[i].Picks = from(3, 8)
	}
	wantPlainly(t, same, 8)
}

// someSnapshot returns a well formed snapshot: small numbers make ties.
func someSnapshot(r *rand.Rand, voters, candidates int, stake uint64) api.Snapshot {
	s := snapshot(r.Perm(2 * candidates)[:1+r.Intn(candidates)])
	slices.Sort(s.Candidates)
	for _, id := range r.Perm(2 * voters)[:1+r.Intn(voters)] {
		picks := r.Perm(2 * candidates)
		picks = picks[:r.Intn(min(len(picks), api.MaxPicks)+1)]
		slices.Sort(picks)
		s.Voters = append(s.Voters, voter(id, r.Uint64()%stake, picks...))
	}
	return s
}

// P11.1, P11.2: random snapshots, held against the plain reckoning.
func TestMany(t *testing.T) {
	r := rand.New(rand.NewSource(1))
	for range 700 {
		wantPlainly(t, someSnapshot(r, 5, 4, 4), r.Intn(9))
	}
	for range 300 {
		wantPlainly(t, someSnapshot(r, 8, 6, 1000), r.Intn(9))
	}
	for range 40 {
		wantPlainly(t, someSnapshot(r, 32, 32, 1<<59), r.Intn(9))
	}
}

// group is what some voters of a snapshot hold and approve in common.
type group struct {
	stake   *big.Int
	common  int   // how many candidates all of them approve
	elected int   // how many elected candidates one of them approves
	members []int // their places
}

func groupOf(s api.Snapshot, elected []Seat, chosen int) group {
	g := group{stake: new(big.Int)}
	for i, v := range s.Voters {
		if chosen>>i&1 == 1 {
			g.members = append(g.members, i)
			g.stake.Add(g.stake, new(big.Int).SetUint64(v.Stake))
		}
	}
	approves := func(candidate int) func(place int) bool {
		return func(place int) bool { return plainApproves(s, s.Voters[place], candidate) }
	}
	for _, c := range s.Candidates {
		every := true
		for _, place := range g.members {
			every = every && approves(c)(place)
		}
		if every {
			g.common++
		}
	}
	for _, seat := range elected {
		if slices.ContainsFunc(g.members, approves(seat.Candidate)) {
			g.elected++
		}
	}
	return g
}

// checkFair goes through every group of voters, and returns how many there are
// that are due to have somebody elected.
func checkFair(t *testing.T, s api.Snapshot, seats int) int {
	t.Helper()
	elected, _, e := Elect(s, seats)
	if e != api.OK {
		t.Fatalf("Elect(%v, %d): %v", s, seats, e)
	}
	all, due := new(big.Int), 0
	for _, v := range s.Voters {
		all.Add(all, new(big.Int).SetUint64(v.Stake))
	}
	for chosen := 1; chosen < 1<<len(s.Voters); chosen++ {
		g := groupOf(s, elected, chosen)
		for r := 1; r <= seats; r++ {
			held := new(big.Int).Mul(g.stake, big.NewInt(int64(seats)))
			part := new(big.Int).Mul(all, big.NewInt(int64(r)))
			if held.Cmp(part) < 0 || g.common < r {
				continue
			}
			due++
			if g.elected < r {
				t.Errorf("%v, %d seats: %v elected, but %d are due to the voters at %d", s, seats, elected, r, g.members)
			}
		}
	}
	return due
}

// P2: fair committees.
func TestFair(t *testing.T) {
	r := rand.New(rand.NewSource(2))
	due := 0
	for i := range 400 {
		stake := []uint64{2, 5, 100, 1 << 60}[i%4]
		due += checkFair(t, someSnapshot(r, 7, 5, stake), 1+r.Intn(8))
	}
	// Blocs of voters that agree, which are often due to have several.
	for range 200 {
		s := snapshot(from(0, 12))
		for id := range 7 {
			first := 4 * r.Intn(3)
			s.Voters = append(s.Voters, voter(id, 1+r.Uint64()%3, from(first, 1+r.Intn(4))...))
		}
		due += checkFair(t, s, 1+r.Intn(8))
	}
	if due < 3000 {
		t.Errorf("only %d groups were due to have anybody elected", due)
	}
}
