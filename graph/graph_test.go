package graph

import (
	"math"
	"math/big"
	"math/rand"
	"slices"
	"testing"

	"psephos/api"
)

const (
	most     = math.MaxUint64
	greatest = 1<<31 - 1
)

// voter returns a voter with the stake 1, unless the test says another one.
func voter(id int, picks ...int) api.Voter {
	return api.Voter{ID: id, Stake: 1, Picks: picks}
}

func staked(id int, stake uint64, picks ...int) api.Voter {
	return api.Voter{ID: id, Stake: stake, Picks: picks}
}

func snapshot(candidates []int, voters ...api.Voter) api.Snapshot {
	return api.Snapshot{Voters: voters, Candidates: candidates}
}

// from returns n numbers, one after the other.
func from(first, n int) []int {
	list := make([]int, n)
	for i := range list {
		list[i] = first + i
	}
	return list
}

// crowd returns n voters without picks, with the numbers from first on.
func crowd(first, n int) []api.Voter {
	var list []api.Voter
	for _, id := range from(first, n) {
		list = append(list, voter(id))
	}
	return list
}

// usual is a snapshot to which every function answers something.
func usual() api.Snapshot {
	return snapshot([]int{1, 2, 3, 7},
		staked(5, 3, 1, 2, 9), staked(4, 1, 2), staked(6, 0, 3), staked(2, 8), staked(0, 2, 0, 2))
}

// with returns the usual snapshot and more voters behind its own.
func with(voters ...api.Voter) api.Snapshot {
	s := usual()
	s.Voters = append(s.Voters, voters...)
	return s
}

// among returns the usual voters and other candidates.
func among(candidates ...int) api.Snapshot {
	s := usual()
	s.Candidates = candidates
	return s
}

// numbered32 returns MaxVoters voters with the numbers from 0 on, but one.
func numbered32(place, id int) api.Snapshot {
	voters := crowd(0, api.MaxVoters)
	voters[place].ID = id
	return snapshot(nil, voters...)
}

type named struct {
	name string
	s    api.Snapshot
}

func wellFormed() []named {
	lent := from(0, 60)
	return []named{
		{"empty", api.Snapshot{}},
		{"empty lists", snapshot([]int{}, []api.Voter{}...)},
		{"empty picks", snapshot(nil, api.Voter{Picks: []int{}})},
		{"usual", usual()},
		{"no voters", snapshot([]int{1, 2})},
		{"no candidates", among()},
		{"MaxVoters", snapshot(nil, crowd(0, api.MaxVoters)...)},
		{"MaxVoters of greatest numbers", snapshot(nil, crowd(greatest-api.MaxVoters+1, api.MaxVoters)...)},
		{"voter 0", snapshot(nil, voter(0))},
		{"greatest voter", snapshot(nil, voter(greatest))},
		{"voters in no order", with(voter(greatest), voter(1), voter(30), voter(3))},
		{"number of a candidate", with(voter(7, 7))},
		{"MaxPicks", with(voter(9, from(0, api.MaxPicks)...))},
		{"MaxPicks of greatest numbers", with(voter(9, from(greatest-7, api.MaxPicks)...))},
		{"pick 0", snapshot(nil, voter(9, 0))},
		{"greatest pick", snapshot(nil, voter(9, greatest))},
		{"least and greatest pick", snapshot(nil, voter(9, 0, greatest))},
		{"same picks of two", with(voter(8, 1, 2), voter(9, 1, 2))},
		{"candidate 0", among(0)},
		{"greatest candidate", among(greatest)},
		{"least and greatest candidate", among(0, greatest)},
		{"MaxCandidates", among(from(0, api.MaxCandidates)...)},
		{"MaxCandidates of greatest numbers", among(from(greatest-31, api.MaxCandidates)...)},
		{"spare capacity", snapshot(lent[:3], voter(1, lent[:8]...))},
		{"stakes of 0", snapshot([]int{1}, staked(1, 0, 1), staked(2, 0, 1))},
		{"one stake of 2^64 - 1", snapshot([]int{1}, staked(1, most, 1))},
		{"stakes of 2^64 - 1", snapshot([]int{1}, staked(1, 1<<63, 1), staked(2, 1<<63-1, 1))},
		{"stakes of 2^64 - 1 and 0", snapshot([]int{1}, staked(1, 0, 1), staked(2, most, 1), staked(3, 0))},
	}
}

// illFormed returns snapshots with one fault each; but for it, something would
// be told of nearly all of them.
func illFormed() []named {
	return []named{
		{"one voter too many", with(crowd(10, api.MaxVoters-4)...)},
		{"many voters", with(crowd(10, 5000)...)},
		{"voter -1", with(voter(-1))},
		{"voter -1 first", snapshot([]int{1}, voter(-1, 1), voter(5, 1))},
		{"least voter", with(voter(math.MinInt))},
		{"voter 2^31", with(voter(greatest + 1))},
		{"voter 2^31 first", snapshot([]int{1}, voter(greatest+1, 1), voter(5, 1))},
		{"voter 2^32 + 1", with(voter(1<<32 + 1))},
		{"most voter", with(voter(math.MaxInt))},
		{"same number next to each other", with(voter(0))},
		{"same number far apart", with(voter(5))},
		{"same number, with other picks and stakes", with(staked(4, 0, 7))},
		{"same number twice behind", with(voter(11), voter(12), voter(11))},
		{"same greatest number", with(voter(greatest), voter(12), voter(greatest))},
		{"one pick too many", with(voter(9, from(0, api.MaxPicks+1)...))},
		{"many picks", with(voter(9, from(0, 5000)...))},
		{"pick -1", with(voter(9, -1))},
		{"pick -1 and more", with(voter(9, -1, 0, 1))},
		{"least pick", with(voter(9, math.MinInt, 1))},
		{"pick 2^31", with(voter(9, greatest+1))},
		{"pick 2^31 behind others", with(voter(9, 0, 1, greatest+1))},
		{"most pick", with(voter(9, math.MaxInt))},
		{"pick of a stake of 0", with(staked(9, 0, -1))},
		{"equal picks", with(voter(9, 1, 1))},
		{"equal picks of 0", with(voter(9, 0, 0))},
		{"equal picks behind", with(voter(9, 1, 2, 3, 4, 5, 6, 7, 7))},
		{"equal picks apart", with(voter(9, 1, 2, 1))},
		{"descending picks", with(voter(9, 2, 1))},
		{"descending picks behind", with(voter(9, 1, 2, 3, 4, 5, 6, 8, 7))},
		{"picks of the first voter", snapshot([]int{1, 2}, voter(5, 2, 1), voter(4, 1))},
		{"stakes of 2^64", with(staked(9, most-13))},
		{"stakes of 2^64 and 1", with(staked(9, most-12))},
		{"stakes of 2^64, and 0", with(staked(9, most-13), staked(10, 0))},
		{"stakes of 2^65 - 2", snapshot([]int{1}, staked(5, most, 1), staked(4, most, 1))},
		{"stakes of 2^65", with(staked(9, most), staked(10, most-12))},
		{"one candidate too many", among(from(0, api.MaxCandidates+1)...)},
		{"many candidates", among(from(0, 5000)...)},
		{"candidate -1", among(-1, 1, 2)},
		{"least candidate", among(math.MinInt, 1, 2)},
		{"candidate 2^31", among(1, 2, greatest+1)},
		{"most candidate", among(1, 2, math.MaxInt)},
		{"equal candidates", among(1, 1, 2)},
		{"equal candidates of 0", among(0, 0)},
		{"equal candidates behind", among(append(from(1, 31), 31)...)},
		{"equal candidates apart", among(1, 2, 1)},
		{"descending candidates", among(2, 1)},
		{"descending candidates behind", among(append(from(1, 31), 30)...)},
		{"only candidate -1", among(-1)},
		{"only candidate 2^31", among(greatest + 1)},
	}
}

// plainListed is the chapter's word on picks and candidates, each number held
// against all others.
func plainListed(list []int, most int) bool {
	if len(list) > most {
		return false
	}
	for i, n := range list {
		if n < 0 || n > greatest {
			return false
		}
		for j, other := range list {
			if (j < i) != (other < n) && j != i {
				return false
			}
		}
	}
	return true
}

func plainTotal(s api.Snapshot) *big.Int {
	sum := new(big.Int)
	for _, v := range s.Voters {
		sum.Add(sum, new(big.Int).SetUint64(v.Stake))
	}
	return sum
}

func plainFormed(s api.Snapshot) bool {
	if len(s.Voters) > 32 || !plainListed(s.Candidates, 32) || plainTotal(s).BitLen() > 64 {
		return false
	}
	for i, v := range s.Voters {
		if v.ID < 0 || v.ID > greatest || !plainListed(v.Picks, 8) {
			return false
		}
		for j, other := range s.Voters {
			if i != j && v.ID == other.ID {
				return false
			}
		}
	}
	return true
}

// plainApproves and those below it are for well formed snapshots alone.
func plainApproves(s api.Snapshot, voter, candidate int) bool {
	for _, v := range s.Voters {
		for _, pick := range v.Picks {
			for _, c := range s.Candidates {
				if v.ID == voter && v.Stake > 0 && pick == c && c == candidate {
					return true
				}
			}
		}
	}
	return false
}

func plainApprovers(s api.Snapshot, candidate int) []int {
	var list []int
	for _, v := range s.Voters {
		if plainApproves(s, v.ID, candidate) {
			list = append(list, v.ID)
		}
	}
	return list
}

func plainSupported(s api.Snapshot) []int {
	var list []int
	for _, c := range s.Candidates {
		if len(plainApprovers(s, c)) > 0 {
			list = append(list, c)
		}
	}
	return list
}

func plainSeats(s api.Snapshot, most int) int {
	seats := len(plainSupported(s))
	if most < seats {
		seats = most
	}
	if most < 0 {
		seats = 0
	}
	return seats
}

func plainStake(s api.Snapshot, voter int) (uint64, bool) {
	for _, v := range s.Voters {
		if v.ID == voter {
			return v.Stake, true
		}
	}
	return 0, false
}

// asked returns the numbers that are worth asking a snapshot for: its own,
// their neighbours, and those at the edges of numbers.
func asked(s api.Snapshot) []int {
	list := []int{math.MinInt, -1, 0, 1, greatest, greatest + 1, math.MaxInt}
	own := slices.Clone(s.Candidates[:min(40, len(s.Candidates))])
	for _, v := range s.Voters[:min(40, len(s.Voters))] {
		own = append(append(own, v.ID), v.Picks[:min(12, len(v.Picks))]...)
	}
	for _, n := range own {
		list = append(list, n-1, n, n+1)
	}
	slices.Sort(list)
	return slices.Compact(list)
}

// voters returns the numbers of a snapshot's voters, and some of no voter.
func voters(s api.Snapshot) []int {
	list := []int{-1, greatest + 1}
	for _, v := range s.Voters[:min(40, len(s.Voters))] {
		list = append(list, v.ID)
	}
	return list
}

// checkAgainstPlain holds all that is told of a snapshot against plain loops.
func checkAgainstPlain(t *testing.T, name string, s api.Snapshot) {
	t.Helper()
	formed := plainFormed(s)
	if got := Formed(s); got != formed {
		t.Errorf("%s: Formed(%v): %t", name, s, got)
	}
	if !formed {
		checkNothing(t, name, s)
		return
	}
	if got, want := Total(s), plainTotal(s).Uint64(); got != want {
		t.Errorf("%s: Total(%v): %d, wanted %d", name, s, got, want)
	}
	if got, want := Supported(s), plainSupported(s); !slices.Equal(got, want) {
		t.Errorf("%s: Supported(%v): %d, wanted %d", name, s, got, want)
	}
	for _, most := range []int{math.MinInt, -1, 0, 1, 2, 3, 4, 5, 8, 31, 32, 33, math.MaxInt} {
		if got, want := Seats(s, most), plainSeats(s, most); got != want {
			t.Errorf("%s: Seats(%v, %d): %d, wanted %d", name, s, most, got, want)
		}
	}
	for _, n := range asked(s) {
		checkNumber(t, name, s, n)
	}
}

// checkNumber holds what is told of a number, as a candidate and as a voter,
// against plain loops.
func checkNumber(t *testing.T, name string, s api.Snapshot, n int) {
	t.Helper()
	approvers := plainApprovers(s, n)
	if got := Approvers(s, n); !slices.Equal(got, approvers) {
		t.Errorf("%s: Approvers(%v, %d): %d, wanted %d", name, s, n, got, approvers)
	}
	stake, ok := plainStake(s, n)
	if got, gotOK := Stake(s, n); got != stake || gotOK != ok {
		t.Errorf("%s: Stake(%v, %d): %d, %t, wanted %d, %t", name, s, n, got, gotOK, stake, ok)
	}
	for _, id := range voters(s) {
		if got, want := Approves(s, id, n), plainApproves(s, id, n); got != want {
			t.Errorf("%s: Approves(%v, %d, %d): %t", name, s, id, n, got)
		}
	}
}

// checkNothing sees to it that nothing is told of a snapshot that is not well
// formed.
func checkNothing(t *testing.T, name string, s api.Snapshot) {
	t.Helper()
	for _, n := range asked(s) {
		if list := Approvers(s, n); len(list) != 0 {
			t.Errorf("%s: Approvers(%v, %d): %d", name, s, n, list)
		}
		if stake, ok := Stake(s, n); stake != 0 || ok {
			t.Errorf("%s: Stake(%v, %d): %d, %t", name, s, n, stake, ok)
		}
		if seats := Seats(s, n); seats != 0 {
			t.Errorf("%s: Seats(%v, %d): %d", name, s, n, seats)
		}
		for _, id := range voters(s) {
			if Approves(s, id, n) {
				t.Errorf("%s: Approves(%v, %d, %d)", name, s, id, n)
			}
		}
	}
	if list, total := Supported(s), Total(s); len(list) != 0 || total != 0 {
		t.Errorf("%s: %v: Supported: %d, Total: %d", name, s, list, total)
	}
}

// P10.1: what is well formed, and what is not.
func TestFormed(t *testing.T) {
	for _, c := range wellFormed() {
		if !Formed(c.s) {
			t.Errorf("%s: not formed: %v", c.name, c.s)
		}
	}
	for _, c := range illFormed() {
		if Formed(c.s) {
			t.Errorf("%s: formed: %v", c.name, c.s)
		}
	}
}

// P10.1: a number at any place of most voters can spoil them.
func TestVotersAtEveryPlace(t *testing.T) {
	for place := range api.MaxVoters {
		for id, want := range map[int]bool{
			place: true, 32: true, greatest: true,
			-1: false, greatest + 1: false, math.MinInt: false, math.MaxInt: false,
		} {
			if got := Formed(numbered32(place, id)); got != want {
				t.Errorf("voter %d at %d: %t", id, place, got)
			}
		}
		for other := range api.MaxVoters {
			if got := Formed(numbered32(place, other)); got != (place == other) {
				t.Errorf("voter %d at %d and %d: %t", other, other, place, got)
			}
		}
	}
}

// spoilt returns lists of n numbers that ascend but for one fault: a number out
// of range, equal to another one, or changed with it.
func spoilt(n int) [][]int {
	var lists [][]int
	for place := range n {
		for _, wrong := range []int{math.MinInt, -1, greatest + 1, math.MaxInt} {
			list := from(10, n)
			list[place] = wrong
			lists = append(lists, list)
		}
		for other := range n {
			list := from(10, n)
			list[place] = list[other]
			if place != other {
				lists = append(lists, list)
			}
			list = from(10, n)
			list[place], list[other] = list[other], list[place]
			if place != other {
				lists = append(lists, list)
			}
		}
	}
	return lists
}

// P10.1: a number at any place of most picks, and of most candidates, can
// spoil them.
func TestListsAtEveryPlace(t *testing.T) {
	for _, list := range spoilt(api.MaxPicks) {
		if Formed(with(voter(9, list...))) || Formed(with(staked(9, 0, list...))) {
			t.Errorf("picks %d: formed", list)
		}
	}
	for _, list := range spoilt(api.MaxCandidates) {
		if Formed(among(list...)) {
			t.Errorf("candidates %d: formed", list)
		}
	}
}

// P10.1: of a snapshot that is not well formed, nothing is told.
func TestNothingOfIllFormed(t *testing.T) {
	for _, c := range illFormed() {
		checkNothing(t, c.name, c.s)
	}
}

// P10.1: who approves whom.
func TestApproves(t *testing.T) {
	for _, c := range []struct {
		name             string
		voter, candidate int
		want             bool
	}{
		{"first pick", 5, 1, true},
		{"second pick", 5, 2, true},
		{"only pick", 4, 2, true},
		{"voter 0", 0, 2, true},
		{"pick that is no candidate", 5, 9, false},
		{"pick 0 that is no candidate", 0, 0, false},
		{"candidate that is not picked", 5, 3, false},
		{"candidate that nobody picks", 5, 7, false},
		{"candidate of another one", 4, 1, false},
		{"voter with stake 0", 6, 3, false},
		{"voter with stake 0, no pick", 6, 1, false},
		{"voter without picks", 2, 1, false},
		{"no voter", 9, 1, false},
		{"no voter, a candidate's number", 1, 1, false},
		{"no voter and no candidate", 9, 9, false},
		{"voter -1", -1, 1, false},
		{"candidate -1", 5, -1, false},
		{"least", math.MinInt, math.MinInt, false},
		{"most", math.MaxInt, math.MaxInt, false},
		{"numbers beyond 32 bits", 1<<32 + 5, 1<<32 + 1, false},
	} {
		if got := Approves(usual(), c.voter, c.candidate); got != c.want {
			t.Errorf("%s: Approves(%d, %d): %t", c.name, c.voter, c.candidate, got)
		}
	}
	if Approves(api.Snapshot{}, 0, 0) || Approves(snapshot([]int{0}, api.Voter{Picks: []int{0}}), 0, 0) {
		t.Error("the empty snapshot, or a stake of 0")
	}
	if !Approves(snapshot([]int{0}, voter(0, 0)), 0, 0) || !Approves(snapshot([]int{greatest}, voter(greatest, greatest)), greatest, greatest) {
		t.Error("the least and the greatest numbers")
	}
}

// P10.1: approvers stand in the order of the voters, which is not that of
// their numbers or stakes.
func TestApprovers(t *testing.T) {
	s := usual()
	for candidate, want := range map[int][]int{
		1: {5}, 2: {5, 4, 0}, 3: nil, 7: nil, 9: nil, 0: nil, -1: nil, 4: nil, math.MinInt: nil, math.MaxInt: nil,
	} {
		if got := Approvers(s, candidate); !slices.Equal(got, want) {
			t.Errorf("Approvers(%d): %d, wanted %d", candidate, got, want)
		}
	}
	slices.Reverse(s.Voters)
	if got := Approvers(s, 2); !slices.Equal(got, []int{0, 4, 5}) {
		t.Errorf("the other way round: %d", got)
	}
	all := crowd(0, api.MaxVoters)
	for i := range all {
		all[i].ID = (i*13 + 5) % 32
		all[i].Picks = []int{8}
	}
	got := Approvers(snapshot([]int{8}, all...), 8)
	if len(got) != 32 {
		t.Fatalf("of %d voters: %d", len(all), got)
	}
	for i, id := range got {
		if id != all[i].ID {
			t.Errorf("at %d: %d, wanted %d", i, id, all[i].ID)
		}
	}
}

// P10.1: which candidates are supported.
func TestSupported(t *testing.T) {
	for _, c := range []struct {
		name string
		s    api.Snapshot
		want []int
	}{
		{"usual", usual(), []int{1, 2}},
		{"all", with(voter(9, 1, 3, 7)), []int{1, 2, 3, 7}},
		{"empty", api.Snapshot{}, nil},
		{"no voters", snapshot([]int{1, 2}), nil},
		{"no candidates", among(), nil},
		{"no picks", snapshot([]int{1, 2}, voter(1), voter(2)), nil},
		{"only stakes of 0", snapshot([]int{1, 2}, staked(1, 0, 1, 2), staked(2, 0, 2)), nil},
		{"a stake of 0 beside another", snapshot([]int{1, 2}, staked(1, 0, 1, 2), staked(2, 1, 2)), []int{2}},
		{"picks that are no candidates", among(4, 5, 6, 8), nil},
		{"some picks that are no candidates", among(0, 4, 9), []int{0, 9}},
		{"approved by the last voter", snapshot([]int{1}, voter(3), voter(2), voter(1, 1)), []int{1}},
		{"approved in another order", snapshot([]int{1, 2, 3}, voter(1, 3), voter(2, 1), voter(3, 2)), []int{1, 2, 3}},
		{"approved by many", snapshot([]int{1, 2}, voter(1, 1, 2), voter(2, 1, 2)), []int{1, 2}},
		{"least and greatest", snapshot([]int{0, greatest}, voter(1, 0, greatest)), []int{0, greatest}},
		{"most of them", everybody(), from(0, api.MaxCandidates)},
	} {
		if got := Supported(c.s); !slices.Equal(got, c.want) {
			t.Errorf("%s: Supported: %d, wanted %d", c.name, got, c.want)
		}
	}
}

// everybody is a snapshot of most voters and candidates, each one supported.
func everybody() api.Snapshot {
	voters := crowd(0, api.MaxVoters)
	for i := range voters {
		voters[i].Picks = from(min(i, 24), api.MaxPicks)
	}
	return snapshot(from(0, api.MaxCandidates), voters...)
}

// P10.1: as many seats as wanted, but no more than there are supported
// candidates.
func TestSeats(t *testing.T) {
	for _, c := range []struct {
		s    api.Snapshot
		most int
		want int
	}{
		{usual(), math.MinInt, 0},
		{usual(), -2, 0},
		{usual(), -1, 0},
		{usual(), 0, 0},
		{usual(), 1, 1},
		{usual(), 2, 2},
		{usual(), 3, 2},
		{usual(), 4, 2},
		{usual(), math.MaxInt, 2},
		{api.Snapshot{}, math.MinInt, 0},
		{api.Snapshot{}, -1, 0},
		{api.Snapshot{}, 0, 0},
		{api.Snapshot{}, 1, 0},
		{api.Snapshot{}, math.MaxInt, 0},
		{snapshot([]int{1, 2}, staked(1, 0, 1, 2)), 2, 0},
		{among(4, 5, 6), 3, 0},
		{everybody(), -1, 0},
		{everybody(), api.MaxSeats, api.MaxSeats},
		{everybody(), api.MaxSeats + 1, api.MaxSeats + 1},
		{everybody(), 31, 31},
		{everybody(), 32, 32},
		{everybody(), 33, 32},
		{everybody(), math.MaxInt, 32},
	} {
		if got := Seats(c.s, c.most); got != c.want {
			t.Errorf("Seats(%v, %d): %d, wanted %d", c.s, c.most, got, c.want)
		}
	}
}

// P10.1: all stakes together.
func TestTotal(t *testing.T) {
	for _, c := range []struct {
		s    api.Snapshot
		want uint64
	}{
		{api.Snapshot{}, 0},
		{snapshot([]int{1, 2}), 0},
		{usual(), 14},
		{snapshot([]int{1}, staked(1, 0, 1)), 0},
		{snapshot(nil, staked(1, 7)), 7},
		{snapshot([]int{1}, staked(1, 7, 2), staked(2, 1)), 8},
		{snapshot(nil, staked(1, 1<<63), staked(2, 1<<62)), 1<<63 + 1<<62},
		{snapshot(nil, staked(1, most-1)), most - 1},
		{snapshot(nil, staked(1, most)), most},
		{snapshot(nil, staked(1, 0), staked(2, most), staked(3, 0)), most},
		{snapshot(nil, staked(1, 1<<63), staked(2, 1<<63-1)), most},
		{with(staked(9, most-14)), most},
		{snapshot(nil, staked(1, 1<<63), staked(2, 1<<63)), 0},
		{everybody(), api.MaxVoters},
	} {
		if got := Total(c.s); got != c.want {
			t.Errorf("Total(%v): %d, wanted %d", c.s, got, c.want)
		}
	}
}

// P10.1: the stake of a voter, and whether there is one.
func TestStake(t *testing.T) {
	s := with(staked(greatest, most-14))
	for _, c := range []struct {
		voter int
		want  uint64
		ok    bool
	}{
		{5, 3, true}, {4, 1, true}, {6, 0, true}, {2, 8, true}, {0, 2, true}, {greatest, most - 14, true},
		{1, 0, false}, {3, 0, false}, {7, 0, false}, {9, 0, false}, {-1, 0, false}, {greatest - 1, 0, false},
		{greatest + 1, 0, false}, {1<<32 + 5, 0, false}, {math.MinInt, 0, false}, {math.MaxInt, 0, false},
	} {
		if got, ok := Stake(s, c.voter); got != c.want || ok != c.ok {
			t.Errorf("Stake(%d): %d, %t, wanted %d, %t", c.voter, got, ok, c.want, c.ok)
		}
	}
	if got, ok := Stake(api.Snapshot{}, 0); got != 0 || ok {
		t.Errorf("of nobody: %d, %t", got, ok)
	}
	if got, ok := Stake(snapshot(nil, staked(3, most)), 3); got != most || !ok {
		t.Errorf("the greatest stake: %d, %t", got, ok)
	}
}

// P10.1: what is well formed, against plain loops.
func TestEdges(t *testing.T) {
	for _, c := range wellFormed() {
		checkAgainstPlain(t, c.name, c.s)
	}
	checkAgainstPlain(t, "everybody", everybody())
}

// some returns up to most numbers below bound, in ascending order.
func some(r *rand.Rand, most, bound int) []int {
	list := r.Perm(bound)[:r.Intn(min(most, bound)+1)]
	slices.Sort(list)
	return list
}

// someSnapshot returns a well formed snapshot, of few or of many numbers.
func someSnapshot(r *rand.Rand) api.Snapshot {
	bound := []int{4, 12, 40}[r.Intn(3)]
	s := api.Snapshot{Candidates: some(r, api.MaxCandidates, bound)}
	left := uint64(most)
	for _, id := range r.Perm(48)[:r.Intn(api.MaxVoters+1)] {
		v := api.Voter{ID: id, Picks: some(r, api.MaxPicks, bound)}
		if r.Intn(3) > 0 {
			v.Stake = min(left, r.Uint64()>>r.Intn(64))
			left -= v.Stake
		}
		s.Voters = append(s.Voters, v)
	}
	return s
}

// spoil changes something of a snapshot, so that it is often not well formed
// any more.
func spoil(r *rand.Rand, s api.Snapshot) api.Snapshot {
	wrong := []int{-1, greatest, greatest + 1, r.Intn(40), r.Intn(40)}[r.Intn(5)]
	list := &s.Candidates
	if len(s.Voters) > 0 && r.Intn(4) > 0 {
		v := &s.Voters[r.Intn(len(s.Voters))]
		list = &v.Picks
		switch r.Intn(4) {
		case 0:
			v.ID = wrong
			return s
		case 1:
			v.Stake = r.Uint64() | 1<<63
			return s
		}
	}
	if len(*list) == 0 || r.Intn(2) == 0 {
		*list = append(*list, wrong)
	} else {
		(*list)[r.Intn(len(*list))] = wrong
	}
	return s
}

// P10.1: random snapshots against plain loops.
func TestMany(t *testing.T) {
	r := rand.New(rand.NewSource(10))
	formed, spoilt, supported := 0, 0, 0
	for range 700 {
		s := someSnapshot(r)
		if r.Intn(3) == 0 {
			s = spoil(r, s)
		}
		checkAgainstPlain(t, "random", s)
		if Formed(s) {
			formed++
		} else {
			spoilt++
		}
		if len(Supported(s)) > 0 {
			supported++
		}
	}
	if formed < 400 || spoilt < 80 || supported < 250 {
		t.Errorf("%d formed, %d not, %d with supported candidates", formed, spoilt, supported)
	}
}

// lent returns the numbers with spare capacity, all of it filled.
func lent(list []int) []int {
	return append(slices.Clone(list), 1, 2, 93)[:len(list)]
}

// copied returns a snapshot whose lists are new and have spare capacity.
func copied(s api.Snapshot) api.Snapshot {
	voters := append(slices.Clone(s.Voters), staked(77, 7, 7), staked(78, 8, 8))[:len(s.Voters)]
	for i := range voters {
		voters[i].Picks = lent(voters[i].Picks)
	}
	return api.Snapshot{Voters: voters, Candidates: lent(s.Candidates)}
}

func sameVoter(a, b api.Voter) bool {
	return a.ID == b.ID && a.Stake == b.Stake && slices.Equal(a.Picks[:cap(a.Picks)], b.Picks[:cap(b.Picks)])
}

// same reports whether two snapshots are equal, spare capacity included.
func same(a, b api.Snapshot) bool {
	return len(a.Voters) == len(b.Voters) && len(a.Candidates) == len(b.Candidates) &&
		slices.EqualFunc(a.Voters[:cap(a.Voters)], b.Voters[:cap(b.Voters)], sameVoter) &&
		slices.Equal(a.Candidates[:cap(a.Candidates)], b.Candidates[:cap(b.Candidates)])
}

// R3: what is handed in is left as it is, spare capacity included.
func TestArgumentsStay(t *testing.T) {
	for _, c := range append(wellFormed(), illFormed()...) {
		s, before := copied(c.s), copied(c.s)
		Formed(s)
		Supported(s)
		Total(s)
		for _, n := range []int{-1, 0, 1, 2, 5, 33} {
			Approvers(s, n)
			Approves(s, 5, n)
			Seats(s, n)
			Stake(s, n)
		}
		if !same(s, before) {
			t.Errorf("%s: %v became %v", c.name, before, s)
		}
	}
}

// overwrite changes every number of a list, spare capacity included.
func overwrite(list []int) {
	for i := range list[:cap(list)] {
		list[:cap(list)][i] = 55
	}
}

// R3: lists that are returned are new memory, each time.
func TestListsAreNew(t *testing.T) {
	for _, whole := range []api.Snapshot{usual(), everybody(), snapshot([]int{5}, voter(5, 5))} {
		s, before := copied(whole), copied(whole)
		candidate := Supported(s)[0]
		approvers, supported := Approvers(s, candidate), Supported(s)
		wantApprovers, wantSupported := slices.Clone(approvers), slices.Clone(supported)
		overwrite(approvers)
		if !slices.Equal(supported, wantSupported) || !same(s, before) {
			t.Errorf("written over the approvers: %d, %v", supported, s)
		}
		overwrite(supported)
		if !same(s, before) {
			t.Errorf("written over the supported: %v became %v", before, s)
		}
		approvers, supported = Approvers(s, candidate), Supported(s)
		overwrite(Approvers(s, candidate))
		overwrite(Supported(s))
		overwrite(s.Candidates)
		for i := range s.Voters {
			overwrite(s.Voters[i].Picks)
			s.Voters[i] = api.Voter{}
		}
		if !slices.Equal(approvers, wantApprovers) || !slices.Equal(supported, wantSupported) {
			t.Errorf("later: %d and %d, wanted %d and %d", approvers, supported, wantApprovers, wantSupported)
		}
	}
}

// R2, R4: the same again answers the same, and nil is the empty list.
func TestSameAgain(t *testing.T) {
	for range 3 {
		checkAgainstPlain(t, "usual", usual())
		for _, none := range []api.Snapshot{{}, {Voters: []api.Voter{}, Candidates: []int{}}} {
			stake, ok := Stake(none, 0)
			if !Formed(none) || Approves(none, 0, 0) || len(Approvers(none, 0)) != 0 || len(Supported(none)) != 0 ||
				Seats(none, 3) != 0 || Total(none) != 0 || stake != 0 || ok {
				t.Errorf("%#v", none)
			}
		}
		for _, picks := range [][]int{nil, {}} {
			s := snapshot([]int{0}, api.Voter{Stake: 1, Picks: picks})
			if !Formed(s) || Approves(s, 0, 0) || len(Approvers(s, 0)) != 0 || len(Supported(s)) != 0 || Total(s) != 1 {
				t.Errorf("%#v", s)
			}
		}
	}
}
