// Package exact compares fractions of any length. It is no layer of its own:
// layers 12 and 13 ask it where ratio.Cmp can't tell fractions apart because a
// product of theirs is too long.
package exact

import (
	"slices"

	"psephos/api"
	"psephos/limb"
	"psephos/ratio"
)

// Cmp returns -1, 0 or 1 if a is less than, equal to or greater than b, for
// well formed fractions.
func Cmp(a, b ratio.Ratio) int {
	if slices.Equal(a.Num, b.Num) && slices.Equal(a.Den, b.Den) {
		return 0
	}
	left, e := limb.Mul(a.Num, b.Den)
	right, other := limb.Mul(b.Num, a.Den)
	if e == api.OK && other == api.OK {
		return limb.Cmp(left, right)
	}
	return byParts(a, b)
}

// byParts compares fractions that are not equal by their whole parts, and then
// by what is left of them, turned over: nothing in it gets longer. Of long
// ones that lie close together that takes thousands of divisions.
func byParts(a, b ratio.Ratio) int {
	for {
		whole, rest, _ := limb.DivMod(a.Num, a.Den)
		otherWhole, otherRest, _ := limb.DivMod(b.Num, b.Den)
		if order := limb.Cmp(whole, otherWhole); order != 0 {
			return order
		}
		if len(rest) == 0 || len(otherRest) == 0 {
			return limb.Cmp(rest, otherRest)
		}
		a, b = ratio.Ratio{Num: b.Den, Den: otherRest}, ratio.Ratio{Num: a.Den, Den: rest}
	}
}
