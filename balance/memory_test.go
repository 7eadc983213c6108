package balance

import (
	"math/big"
	"math/rand"
	"slices"
	"testing"

	"psephos/api"
	"psephos/limb"
	"psephos/phragmen"
	"psephos/ratio"
)

// lent returns a list with spare capacity that is filled.
func lent[T any](list []T, filling T) []T {
	return append(slices.Clone(list), filling, filling)[:len(list)]
}

func lentRatio(a ratio.Ratio) ratio.Ratio {
	return ratio.Ratio{Num: lent(a.Num, 77), Den: lent(a.Den, 77)}
}

func lentRatios(list []ratio.Ratio) []ratio.Ratio {
	list = lent(list, small(7, 7))
	for i := range list {
		list[i] = lentRatio(list[i])
	}
	return list
}

func lentSnapshot(s api.Snapshot) api.Snapshot {
	s = api.Snapshot{Voters: lent(s.Voters, voter(77, 77, 77)), Candidates: lent(s.Candidates, 77)}
	for i := range s.Voters {
		s.Voters[i].Picks = lent(s.Voters[i].Picks, 77)
	}
	return s
}

func lentShares(shares []phragmen.Share) []phragmen.Share {
	shares = lent(shares, share(77, 77, small(7, 7)))
	for i := range shares {
		shares[i].Weight = lentRatio(shares[i].Weight)
	}
	return shares
}

// wholly reports whether two lists are equal, spare capacity included.
func wholly[T any](a, b []T, equal func(a, b T) bool) bool {
	return len(a) == len(b) && slices.EqualFunc(a[:cap(a)], b[:cap(b)], equal)
}

func equal[T comparable](a, b T) bool { return a == b }

func sameVoter(a, b api.Voter) bool {
	return a.ID == b.ID && a.Stake == b.Stake && wholly(a.Picks, b.Picks, equal)
}

func sameSnapshot(a, b api.Snapshot) bool {
	return wholly(a.Voters, b.Voters, sameVoter) && wholly(a.Candidates, b.Candidates, equal)
}

func sameRatio(a, b ratio.Ratio) bool {
	return wholly(a.Num, b.Num, equal) && wholly(a.Den, b.Den, equal)
}

func sameShare(a, b phragmen.Share) bool {
	return a.Voter == b.Voter && a.Candidate == b.Candidate && sameRatio(a.Weight, b.Weight)
}

// fill changes every limb of a fraction, spare capacity included.
func fill(a ratio.Ratio) {
	for _, n := range []limb.Nat{a.Num, a.Den} {
		for i := range n[:cap(n)] {
			n[:cap(n)][i] = 55
		}
	}
}

func severalSupports() [][]ratio.Ratio {
	list := [][]ratio.Ratio{nil, {}, smalls(5), smalls(0), smalls(1, 3, 9), smalls(9, 1, 3, 1, 0, 0, 5, 5), smalls(9, 8, 7, 6, 5, 4, 3, 2, 1),
		{small(1, 2), small(7, 3), part(full(70)), part(power(60))}, {part(full(201)), part(power(201))},
		{part(full(100)), {}, small(2, 4)}}
	for place := range 3 {
		list = append(list, slices.Insert(smalls(1, 2), place, small(3, 3)))
	}
	return list
}

// R3: the arguments of Turn are left as they are, spare capacity too.
func TestSupportsStay(t *testing.T) {
	for _, whole := range severalSupports() {
		supports := lentRatios(whole)
		for _, stake := range []uint64{0, 1, 4, most} {
			Turn(stake, supports)
			if !wholly(supports, lentRatios(whole), sameRatio) {
				t.Errorf("Turn(%d, ..): %v became %v", stake, whole, supports)
			}
		}
	}
}

// R3: what Turn returns may be written over.
func TestGivenIsNew(t *testing.T) {
	for _, whole := range severalSupports() {
		supports := lentRatios(whole)
		for _, stake := range []uint64{0, 1, 4, most} {
			if _, e := Turn(stake, supports); e != api.OK {
				continue
			}
			want := plainTurn(stake, toRats(whole))
			for written := range want {
				got, _ := Turn(stake, supports)
				fill(got[written])
				for i, weight := range got {
					if i != written && !is(weight, want[i]) {
						t.Errorf("Turn(%d, %v), %d written over: %d is %v", stake, whole, written, i, weight)
					}
				}
				clear(got[:cap(got)])
			}
			if !wholly(supports, lentRatios(whole), sameRatio) {
				t.Errorf("answers written over: %v became %v", whole, supports)
			}
			wantTurn(t, stake, supports, want...)
			got, _ := Turn(stake, supports)
			for _, support := range supports {
				fill(support)
			}
			if !slices.EqualFunc(got, want, is) {
				t.Errorf("Turn(%d, %v), the supports written over: %v", stake, whole, got)
			}
			supports = lentRatios(whole)
		}
	}
}

// problem is what Even is given.
type problem struct {
	s         api.Snapshot
	committee []int
	shares    []phragmen.Share
}

func severalProblems() []problem {
	s, shares := example()
	all, members, given := crowd()
	list := []problem{{s, []int{1, 2}, shares}, {all, members, given}, {s, []int{1, 2}, nil}, {},
		{s, []int{1, 2}, append(slices.Clone(shares), share(5, 1, small(9, 2)), share(6, 2, part(full(100))))},
		{s, []int{1, 2}, append(slices.Clone(shares), share(5, 2, part(full(201))), share(6, 2, part(power(201))))},
		{s, []int{1}, shares}, {s, []int{1, 2, 2}, shares}, {s, []int{1, 2}, append(slices.Clone(shares), shares[1])},
		{s, []int{1, 2}, append(slices.Clone(shares), share(5, 2, small(2, 4)))},
		{s, []int{1, 2}, append(slices.Clone(shares), share(4, 2, small(2, 1)))}}
	for _, bad := range malformed() {
		list = append(list, problem{bad, []int{1, 2}, shares})
	}
	r := rand.New(rand.NewSource(6))
	for range 5 {
		s, committee, shares := someShares(r)
		list = append(list, problem{s, committee, shares})
	}
	return list
}

func (p problem) lent() problem {
	return problem{lentSnapshot(p.s), lent(p.committee, 77), lentShares(p.shares)}
}

func (p problem) same(q problem) bool {
	return sameSnapshot(p.s, q.s) && wholly(p.committee, q.committee, equal) && wholly(p.shares, q.shares, sameShare)
}

// R3: the arguments of Even are left as they are, spare capacity too.
func TestArgumentsStay(t *testing.T) {
	for _, p := range severalProblems() {
		given := p.lent()
		for _, passes := range []int{-1, 0, 1, 4, 5} {
			Even(given.s, given.committee, given.shares, passes)
			if !given.same(p.lent()) {
				t.Errorf("Even(.., %d): %v became %v", passes, p, given)
			}
		}
	}
}

// R3: what Even returns may be written over.
func TestSharesAreNew(t *testing.T) {
	for _, p := range severalProblems() {
		given := p.lent()
		for _, passes := range []int{0, 1, 2} {
			if _, e := Even(given.s, given.committee, given.shares, passes); e != api.OK {
				continue
			}
			want := plainEven(p.s, p.shares, passes)
			for written := range want {
				if written > 9 {
					break
				}
				got, _ := Even(given.s, given.committee, given.shares, passes)
				fill(got[written].Weight)
				checkOthers(t, got, want, written)
				clear(got[:cap(got)])
			}
			if !given.same(p.lent()) {
				t.Errorf("answers written over: %v became %v", p, given)
			}
			wantEven(t, given.s, given.committee, given.shares, passes, want...)
			got, _ := Even(given.s, given.committee, given.shares, passes)
			for _, one := range given.shares {
				fill(one.Weight)
			}
			clear(given.shares)
			checkOthers(t, got, want, -1)
			given = p.lent()
		}
	}
}

// checkOthers checks all weights but that which was written over.
func checkOthers(t *testing.T, got []phragmen.Share, want []*big.Rat, written int) {
	t.Helper()
	for i, one := range got {
		if i != written && !is(one.Weight, want[i]) {
			t.Errorf("written over %d: the share %d is %v, wanted %v", written, i, one, want[i])
		}
	}
}

// R2, R4: the same again answers the same, whatever was asked between.
func TestSameAgain(t *testing.T) {
	s, shares := example()
	for range 3 {
		wantTurn(t, 4, smalls(1, 3, 9), rats(3, 1, 0)...)
		wantNoTurn(t, 4, nil, api.ErrArg)
		wantEven(t, s, []int{1, 2}, shares, 1, rats(3, 1, 2)...)
		wantNotEven(t, s, []int{1}, shares, 1, api.ErrArg)
		wantNoTurn(t, 1, []ratio.Ratio{part(full(201)), part(power(201))}, api.ErrLong)
	}
}
