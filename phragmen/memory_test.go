package phragmen

import (
	"math/big"
	"math/rand"
	"slices"
	"testing"

	"psephos/api"
	"psephos/limb"
	"psephos/ratio"
)

// lent returns a list with spare capacity that is filled.
func lent[T any](list []T, filling T) []T {
	return append(slices.Clone(list), filling, filling)[:len(list)]
}

func lentRatio(a ratio.Ratio) ratio.Ratio {
	return ratio.Ratio{Num: lent(a.Num, 77), Den: lent(a.Den, 77)}
}

func lentSnapshot(s api.Snapshot) api.Snapshot {
	s = api.Snapshot{Voters: lent(s.Voters, voter(77, 77, 77)), Candidates: lent(s.Candidates, 77)}
	for i := range s.Voters {
		s.Voters[i].Picks = lent(s.Voters[i].Picks, 77)
	}
	return s
}

func lentShares(shares []Share) []Share {
	shares = lent(shares, share(77, 77, small(7, 7)))
	for i := range shares {
		shares[i].Weight = lentRatio(shares[i].Weight)
	}
	return shares
}

// wholly reports whether two lists are equal, spare capacity included.
func wholly[T any](a, b []T, equal func(a, b T) bool) bool {
	return len(a) == len(b) && slices.EqualFunc(a[:cap(a)], b[:cap(b)], equal)
}

func equal[T comparable](a, b T) bool { return a == b }

func sameVoter(a, b api.Voter) bool {
	return a.ID == b.ID && a.Stake == b.Stake && wholly(a.Picks, b.Picks, equal)
}

func sameSnapshot(a, b api.Snapshot) bool {
	return wholly(a.Voters, b.Voters, sameVoter) && wholly(a.Candidates, b.Candidates, equal)
}

func sameRatio(a, b ratio.Ratio) bool {
	return wholly(a.Num, b.Num, equal) && wholly(a.Den, b.Den, equal)
}

func sameShare(a, b Share) bool {
	return a.Voter == b.Voter && a.Candidate == b.Candidate && sameRatio(a.Weight, b.Weight)
}

// fill changes every limb of a fraction, spare capacity included.
func fill(a ratio.Ratio) {
	for _, n := range []limb.Nat{a.Num, a.Den} {
		for i := range n[:cap(n)] {
			n[:cap(n)][i] = 55
		}
	}
}

func several() []api.Snapshot {
	return []api.Snapshot{{}, example(), crowded(), great(rand.New(rand.NewSource(5))),
		snapshot([]int{1}, voter(1, 1, 1)), snapshot(from(0, 8), voter(1, 1, from(0, 8)...))}
}

// R3: arguments are left as they are, spare capacity too.
func TestArgumentsStay(t *testing.T) {
	snapshots := several()
	for _, s := range malformed() {
		snapshots = append(snapshots, s)
	}
	for _, whole := range snapshots {
		s, before := lentSnapshot(whole), lentSnapshot(whole)
		_, shares, _ := Elect(s, 8)
		Elect(s, 9)
		if !sameSnapshot(s, before) {
			t.Errorf("%v became %v", before, s)
		}
		given, committee := lentShares(shares), lent([]int{3, 2, 1, 5, 2}, 77)
		if _, e := Supports(committee, given); e != api.OK {
			t.Errorf("Supports: %v", e)
		}
		if !wholly(given, lentShares(shares), sameShare) || !wholly(committee, lent([]int{3, 2, 1, 5, 2}, 77), equal) {
			t.Errorf("%d and %v became %d and %v", []int{3, 2, 1, 5, 2}, shares, committee, given)
		}
	}
}

// parts returns all fractions of an election.
func parts(elected []Seat, shares []Share) []ratio.Ratio {
	var list []ratio.Ratio
	for _, seat := range elected {
		list = append(list, seat.Score)
	}
	for _, share := range shares {
		list = append(list, share.Weight)
	}
	return list
}

func plainParts(elected []plainSeat, shares []plainShare) []*big.Rat {
	var list []*big.Rat
	for _, seat := range elected {
		list = append(list, seat.score)
	}
	for _, share := range shares {
		list = append(list, share.weight)
	}
	return list
}

// R3: what Elect returns may be written over.
func TestElectedAreNew(t *testing.T) {
	for _, whole := range several() {
		s, before := lentSnapshot(whole), lentSnapshot(whole)
		wantSeats, wantShares := plainElect(whole, 8)
		want := plainParts(wantSeats, wantShares)
		for written := range want {
			elected, shares, _ := Elect(s, 8)
			fill(parts(elected, shares)[written])
			for i, part := range parts(elected, shares) {
				if i != written && !is(part, want[i]) {
					t.Errorf("%v: written over the part %d: %d is %v", before, written, i, part)
				}
			}
		}
		elected, shares, _ := Elect(s, 8)
		clear(elected[:cap(elected)])
		clear(shares[:cap(shares)])
		if !sameSnapshot(s, before) {
			t.Errorf("answers written over: %v became %v", before, s)
		}
		wantElected(t, s, 8, wantSeats, wantShares)
		elected, shares, _ = Elect(s, 8)
		overwriteSnapshot(s)
		if !sameSeats(elected, wantSeats) || !sameShares(shares, wantShares) {
			t.Errorf("%v: the arguments written over: %v, %v", before, elected, shares)
		}
	}
}

func overwriteSnapshot(s api.Snapshot) {
	for i := range s.Candidates {
		s.Candidates[i] = 55
	}
	for i := range s.Voters {
		for j := range s.Voters[i].Picks {
			s.Voters[i].Picks[j] = 55
		}
		s.Voters[i] = api.Voter{}
	}
}

// R3: what Supports returns may be written over.
func TestSupportsAreNew(t *testing.T) {
	_, shares, _ := Elect(crowded(), 8)
	shares = lentShares(append(shares, share(1, 60, small(0, 1)), share(1, 61, small(3, 1))))
	before := lentShares(shares)
	committee := append(from(0, 32), 60, 61, 61, 60, 62, 62)
	want, _ := Supports(committee, before)
	for written := range committee {
		got, _ := Supports(committee, shares)
		fill(got[written])
		for i := range got {
			if i != written && !is(got[i], toRat(want[i])) {
				t.Errorf("written over the support %d: %d is %v", written, i, got[i])
			}
		}
		if !wholly(shares, before, sameShare) {
			t.Fatalf("written over the support %d: %v", written, shares)
		}
		clear(got[:cap(got)])
	}
	got, _ := Supports(committee, shares)
	for i := range shares {
		fill(shares[i].Weight)
	}
	if !slices.EqualFunc(got, want, func(a, b ratio.Ratio) bool { return is(a, toRat(b)) }) {
		t.Errorf("the shares written over: %v, wanted %v", got, want)
	}
}

// R2, R4: the same again answers the same, and nil is the empty list.
func TestSameAgain(t *testing.T) {
	for range 3 {
		wantPlainly(t, example(), 2)
		wantPlainly(t, crowded(), 8)
		wantElected(t, api.Snapshot{}, 8, nil, nil)
		wantElected(t, snapshot([]int{}, []api.Voter{}...), 8, nil, nil)
		wantElected(t, snapshot([]int{}, api.Voter{ID: 1, Stake: 1, Picks: []int{}}), 8, nil, nil)
		wantSupports(t, []int{1}, nil, rat(0, 1))
		wantSupports(t, []int{1}, []Share{}, rat(0, 1))
	}
}

func BenchmarkElect(b *testing.B) {
	s := great(rand.New(rand.NewSource(6)))
	for b.Loop() {
		Elect(s, 8)
	}
}
