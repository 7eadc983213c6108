package balance

import (
	"slices"

	"psephos/api"
	"psephos/exact"
	"psephos/limb"
	"psephos/ratio"
)

// filled returns the level to which a stake raises the least of some supports.
func filled(stake uint64, supports []ratio.Ratio) (ratio.Ratio, api.Errno) {
	ascending := slices.Clone(supports)
	slices.SortFunc(ascending, exact.Cmp)
	sum, level := number(0), number(0)
	for i, support := range ascending {
		// The first one is raised even if the stake is 0: to itself.
		if i > 0 && exact.Cmp(level, support) <= 0 {
			break
		}
		var e api.Errno
		if sum, e = ratio.Add(sum, support); e != api.OK {
			return ratio.Ratio{}, e
		}
		if level, e = shared(stake, sum, i+1); e != api.OK {
			return ratio.Ratio{}, e
		}
	}
	return level, api.OK
}

// shared returns the level of so many supports, with that sum, that a stake
// fills up.
func shared(stake uint64, sum ratio.Ratio, count int) (ratio.Ratio, api.Errno) {
	all, e := ratio.Add(sum, number(stake))
	if e != api.OK {
		return ratio.Ratio{}, e
	}
	return ratio.Div(all, number(uint64(count)))
}

// lacking returns what a support lacks to reach a level. The difference of
// layer 2 would be too long for levels that are not, as it is made over the
// product of the denominators: that of a level has most of that of the support
// in it.
func lacking(support, level ratio.Ratio) (ratio.Ratio, api.Errno) {
	if exact.Cmp(support, level) >= 0 {
		return number(0), api.OK
	}
	common, _ := limb.Gcd(support.Den, level.Den)
	own, _, _ := limb.DivMod(support.Den, common)
	other, _, _ := limb.DivMod(level.Den, common)
	den, e := limb.Mul(level.Den, own)
	if e != api.OK {
		return ratio.Ratio{}, e
	}
	top, e := limb.Mul(level.Num, own)
	if e != api.OK {
		return ratio.Ratio{}, e
	}
	// This is less than top, and so it is no longer.
	bottom, _ := limb.Mul(support.Num, other)
	num, _ := limb.Sub(top, bottom)
	return ratio.Make(num, den)
}

func number(n uint64) ratio.Ratio {
	a, _ := ratio.Of(n, 1)
	return a
}
