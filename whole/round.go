package whole

import (
	"slices"

	"psephos/api"
	"psephos/exact"
	"psephos/limb"
	"psephos/ratio"
)

// cut is what was cut off from the weight at a place.
type cut struct {
	place int
	off   ratio.Ratio
}

// rounded is Round for weights that are well formed.
func rounded(weights []ratio.Ratio) ([]limb.Nat, api.Errno) {
	all, e := total(weights)
	if e != api.OK {
		return nil, e
	}
	list, cuts := roundedDown(weights)
	slices.SortFunc(cuts, earlier)
	for _, c := range cuts[:lacking(all, list)] {
		// What gets a unit is still not greater than all together.
		list[c.place], _ = limb.Add(list[c.place], limb.Of(1))
	}
	return list, api.OK
}

// total returns the sum of some weights, rounded down.
func total(weights []ratio.Ratio) (limb.Nat, api.Errno) {
	sum, _ := ratio.Of(0, 1)
	for _, weight := range weights {
		var e api.Errno
		if sum, e = ratio.Add(sum, weight); e != api.OK {
			return nil, e
		}
	}
	return ratio.Floor(sum)
}

// roundedDown returns each weight, rounded down, and what was cut off from it.
func roundedDown(weights []ratio.Ratio) ([]limb.Nat, []cut) {
	var list []limb.Nat
	var cuts []cut
	for place, weight := range weights {
		whole, rest, _ := limb.DivMod(weight.Num, weight.Den)
		list = append(list, whole)
		cuts = append(cuts, cut{place, ratio.Ratio{Num: rest, Den: weight.Den}})
	}
	return list, cuts
}

// lacking returns how many units some integers lack to be all together: as
// less than a unit was cut off from each one, fewer than there are integers.
func lacking(all limb.Nat, list []limb.Nat) int {
	for _, n := range list {
		// They are together not greater than all.
		all, _ = limb.Sub(all, n)
	}
	units, _ := limb.Low(all)
	return int(units)
}

// earlier tells which one of two gets a unit ahead of the other.
func earlier(a, b cut) int {
	if order := exact.Cmp(b.off, a.off); order != 0 {
		return order
	}
	return a.place - b.place
}
