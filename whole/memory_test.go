package whole

import (
	"math/big"
	"math/rand"
	"slices"
	"testing"

	"psephos/api"
	"psephos/limb"
	"psephos/phragmen"
	"psephos/ratio"
)

// lent returns a list with spare capacity that is filled.
func lent[T any](list []T, filling T) []T {
	return append(slices.Clone(list), filling, filling)[:len(list)]
}

func lentRatio(a ratio.Ratio) ratio.Ratio {
	return ratio.Ratio{Num: lent(a.Num, 77), Den: lent(a.Den, 77)}
}

func lentRatios(list []ratio.Ratio) []ratio.Ratio {
	list = lent(list, small(7, 7))
	for i := range list {
		list[i] = lentRatio(list[i])
	}
	return list
}

func lentShares(shares []phragmen.Share) []phragmen.Share {
	shares = lent(shares, share(77, 77, small(7, 7)))
	for i := range shares {
		shares[i].Weight = lentRatio(shares[i].Weight)
	}
	return shares
}

// wholly reports whether two lists are equal, spare capacity included.
func wholly[T any](a, b []T, equal func(a, b T) bool) bool {
	return len(a) == len(b) && slices.EqualFunc(a[:cap(a)], b[:cap(b)], equal)
}

func equal[T comparable](a, b T) bool { return a == b }

func sameRatio(a, b ratio.Ratio) bool {
	return wholly(a.Num, b.Num, equal) && wholly(a.Den, b.Den, equal)
}

func sameShare(a, b phragmen.Share) bool {
	return a.Voter == b.Voter && a.Candidate == b.Candidate && sameRatio(a.Weight, b.Weight)
}

// fill changes every limb of a natural, spare capacity included.
func fill(n limb.Nat) {
	for i := range n[:cap(n)] {
		n[:cap(n)][i] = 55
	}
}

func severalWeights() [][]ratio.Ratio {
	list := [][]ratio.Ratio{nil, {}, fractions(5, 1), fractions(0, 1), fractions(1, 2), fractions(1, 3, 1, 3, 1, 3),
		fractions(9, 1, 1, 2, 3, 4, 8, 3, 0, 1, 0, 1, 7, 5, 5, 7, 9, 1, 2, 3), {part(full(201)), part(power(201))},
		{rest(full(70)), rest(power(60)), whole(full(50)), rest(full(20)), {Num: full(30), Den: power(9)}},
		{part(full(100)), {}, small(2, 4)}, {part(full(150)), rest(full(150)), rest(full(399))}}
	for place := range 3 {
		list = append(list, slices.Insert(fractions(1, 2, 1, 2), place, small(3, 3)))
	}
	return list
}

// R3: the arguments of Round are left as they are, spare capacity too.
func TestWeightsStay(t *testing.T) {
	for _, list := range severalWeights() {
		weights := lentRatios(list)
		Round(weights)
		if !wholly(weights, lentRatios(list), sameRatio) {
			t.Errorf("Round(%v): became %v", list, weights)
		}
	}
}

// R3: what Round returns may be written over.
func TestIntegersAreNew(t *testing.T) {
	for _, list := range severalWeights() {
		weights := lentRatios(list)
		if _, e := Round(weights); e != api.OK {
			continue
		}
		want := plainRound(toRats(list))
		for written := range want {
			got, _ := Round(weights)
			fill(got[written])
			checkOthers(t, got, want, written)
			clear(got[:cap(got)])
		}
		if !wholly(weights, lentRatios(list), sameRatio) {
			t.Errorf("answers written over: %v became %v", list, weights)
		}
		wantRound(t, weights, want...)
		got, _ := Round(weights)
		for _, weight := range weights {
			fill(weight.Num)
			fill(weight.Den)
		}
		clear(weights)
		checkOthers(t, got, want, -1)
	}
}

// checkOthers checks all integers but that which was written over.
func checkOthers(t *testing.T, got []limb.Nat, want []*big.Int, written int) {
	t.Helper()
	for i, n := range got {
		if i != written && !is(n, want[i]) {
			t.Errorf("written over %d: the integer %d is %v, wanted %v", written, i, n, want[i])
		}
	}
}

func severalShares() [][]phragmen.Share {
	list := [][]phragmen.Share{nil, {}, append(from(9, fractions(1, 2, 3, 2)...), from(7, fractions(0, 1, 5, 1)...)...),
		grid(32, 8, small(5, 3)), grid(257, 1, small(5, 3)), append(from(9, whole(power(2))), from(7, small(1, 2), small(1, 2))...),
		{share(4, 2, small(1, 2)), share(4, 1, small(1, 2)), share(3, 1, small(7, 2)), share(4, 2, small(1, 2))}}
	for _, weights := range severalWeights() {
		list = append(list, append(from(5, weights...), from(2, small(1, 2), small(5, 2))...))
	}
	r := rand.New(rand.NewSource(6))
	for range 5 {
		list = append(list, someShares(r))
	}
	return list
}

// R3: the arguments of Edges are left as they are, spare capacity too.
func TestSharesStay(t *testing.T) {
	for _, list := range severalShares() {
		shares := lentShares(list)
		Edges(shares)
		if !wholly(shares, lentShares(list), sameShare) {
			t.Errorf("Edges(%v): became %v", list, shares)
		}
	}
}

// R3: what Edges returns may be written over.
func TestEdgesAreNew(t *testing.T) {
	for _, list := range severalShares() {
		shares := lentShares(list)
		got, e := Edges(shares)
		if e != api.OK {
			continue
		}
		want := slices.Clone(got)
		clear(got[:cap(got)])
		if !wholly(shares, lentShares(list), sameShare) {
			t.Errorf("answers written over: %v became %v", list, shares)
		}
		wantEdges(t, shares, want...)
		got, _ = Edges(shares)
		for _, one := range shares {
			fill(one.Weight.Num)
			fill(one.Weight.Den)
		}
		clear(shares)
		if !slices.Equal(got, want) {
			t.Errorf("Edges(%v), the shares written over: %v", list, got)
		}
	}
}

// R2, R4: the same again answers the same, whatever was asked between.
func TestSameAgain(t *testing.T) {
	for range 3 {
		wantRound(t, fractions(1, 3, 1, 3, 1, 3), integers(1, 0, 0)...)
		wantNoRound(t, fractions(2, 4), api.ErrArg)
		wantEdges(t, from(5, fractions(1, 2, 3, 2)...), edge(5, 1, 1), edge(5, 2, 1))
		wantNoEdges(t, from(5, whole(power(2))), api.ErrRange)
		wantNoRound(t, []ratio.Ratio{part(full(201)), part(power(201))}, api.ErrLong)
		wantNoEdges(t, grid(257, 1, small(1, 1)), api.ErrArg)
		wantRound(t, nil)
		wantEdges(t, nil)
	}
}
