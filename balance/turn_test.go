package balance

import (
	"math"
	"math/big"
	"math/rand"
	"slices"
	"testing"

	"psephos/api"
	"psephos/limb"
	"psephos/ratio"
)

const most = math.MaxUint64

func small(num, den uint64) ratio.Ratio {
	return ratio.Ratio{Num: limb.Of(num), Den: limb.Of(den)}
}

func smalls(list ...uint64) []ratio.Ratio {
	var out []ratio.Ratio
	for _, n := range list {
		out = append(out, small(n, 1))
	}
	return out
}

func rat(num, den uint64) *big.Rat {
	return new(big.Rat).SetFrac(new(big.Int).SetUint64(num), new(big.Int).SetUint64(den))
}

func rats(list ...uint64) []*big.Rat {
	var out []*big.Rat
	for _, n := range list {
		out = append(out, rat(n, 1))
	}
	return out
}

func toBig(a limb.Nat) *big.Int {
	n := new(big.Int)
	for i := len(a) - 1; i >= 0; i-- {
		n.Lsh(n, 32)
		n.Or(n, big.NewInt(int64(a[i])))
	}
	return n
}

func toRat(a ratio.Ratio) *big.Rat {
	return new(big.Rat).SetFrac(toBig(a.Num), toBig(a.Den))
}

func toRats(list []ratio.Ratio) []*big.Rat {
	var out []*big.Rat
	for _, a := range list {
		out = append(out, toRat(a))
	}
	return out
}

func toNat(n *big.Int) limb.Nat {
	var list limb.Nat
	for n = new(big.Int).Set(n); n.Sign() > 0; n.Rsh(n, 32) {
		list = append(list, uint32(new(big.Int).And(n, big.NewInt(1<<32-1)).Uint64()))
	}
	return list
}

func fromRat(a *big.Rat) ratio.Ratio {
	return ratio.Ratio{Num: toNat(a.Num()), Den: toNat(a.Denom())}
}

func plus(a, b *big.Rat) *big.Rat { return new(big.Rat).Add(a, b) }

// is reports whether a is well formed and is that fraction.
func is(a ratio.Ratio, want *big.Rat) bool {
	return ratio.Formed(a) && toBig(a.Num).Cmp(want.Num()) == 0 && toBig(a.Den).Cmp(want.Denom()) == 0
}

// full returns the greatest natural of n limbs, and power the least one of
// n + 1 limbs; nothing divides both.
func full(n int) limb.Nat { return slices.Repeat(limb.Nat{1<<32 - 1}, n) }

func power(n int) limb.Nat { return append(make(limb.Nat, n), 1) }

// part returns 1 / den, and more returns n + 1 / den.
func part(den limb.Nat) ratio.Ratio { return ratio.Ratio{Num: limb.Of(1), Den: den} }

func more(n int64, den limb.Nat) ratio.Ratio {
	return fromRat(plus(big.NewRat(n, 1), toRat(part(den))))
}

// plainTurn begins with the level that all reach together, and leaves out those
// above it, till there are none.
func plainTurn(stake uint64, supports []*big.Rat) []*big.Rat {
	within := slices.Clone(supports)
	var level *big.Rat
	for {
		level = rat(stake, 1)
		for _, s := range within {
			level.Add(level, s)
		}
		level.Quo(level, rat(uint64(len(within)), 1))
		left := slices.DeleteFunc(slices.Clone(within), func(s *big.Rat) bool { return s.Cmp(level) > 0 })
		if len(left) == len(within) {
			break
		}
		within = left
	}
	var list []*big.Rat
	for _, s := range supports {
		lack := new(big.Rat)
		if s.Cmp(level) < 0 {
			lack.Sub(level, s)
		}
		list = append(list, lack)
	}
	return list
}

// wantTurn holds a turn against what is wanted, and that against the plain
// reckoning.
func wantTurn(t *testing.T, stake uint64, supports []ratio.Ratio, want ...*big.Rat) {
	t.Helper()
	got, e := Turn(stake, supports)
	if e != api.OK || !slices.EqualFunc(got, want, is) {
		t.Errorf("Turn(%d, %v): %v, %v, wanted %v", stake, supports, got, e, want)
	}
	plain := plainTurn(stake, toRats(supports))
	if !slices.EqualFunc(plain, want, func(a, b *big.Rat) bool { return a.Cmp(b) == 0 }) {
		t.Errorf("Turn(%d, %v): %v wanted, and %v by the plain reckoning", stake, supports, want, plain)
	}
	checkTurn(t, stake, supports, got)
}

func wantPlainly(t *testing.T, stake uint64, supports []ratio.Ratio) {
	t.Helper()
	wantTurn(t, stake, supports, plainTurn(stake, toRats(supports))...)
}

// checkTurn checks P12.3: what is given is together the stake; those that get
// something lie at one level, and the others not below it.
func checkTurn(t *testing.T, stake uint64, supports, got []ratio.Ratio) {
	t.Helper()
	if len(got) != len(supports) {
		return
	}
	sum := new(big.Rat)
	var level, lowest *big.Rat
	for i, weight := range got {
		sum.Add(sum, toRat(weight))
		after := plus(toRat(weight), toRat(supports[i]))
		if lowest == nil || after.Cmp(lowest) < 0 {
			lowest = after
		}
		if len(weight.Num) > 0 {
			if level != nil && level.Cmp(after) != 0 {
				t.Errorf("Turn(%d, %v): levels %v and %v", stake, supports, level, after)
			}
			level = after
		}
	}
	if sum.Cmp(rat(stake, 1)) != 0 {
		t.Errorf("Turn(%d, %v): %v in all", stake, supports, sum)
	}
	if level != nil && lowest.Cmp(level) < 0 {
		t.Errorf("Turn(%d, %v): %v is below the level %v", stake, supports, lowest, level)
	}
}

// wantNoTurn holds what is refused.
func wantNoTurn(t *testing.T, stake uint64, supports []ratio.Ratio, want api.Errno) {
	t.Helper()
	if got, e := Turn(stake, supports); e != want || got != nil {
		t.Errorf("Turn(%d, %v): %v, %v, wanted %v", stake, supports, got, e, want)
	}
}

// P12.1: the chapter's example, and how many of the least are raised.
func TestTurn(t *testing.T) {
	wantTurn(t, 4, smalls(1, 3, 9), rats(3, 1, 0)...)
	wantTurn(t, 0, smalls(1, 3, 9), rats(0, 0, 0)...)
	wantTurn(t, 1, smalls(1, 3, 9), rats(1, 0, 0)...)
	// The level lies just at a support, and just below and above it.
	wantTurn(t, 2, smalls(1, 3, 9), rats(2, 0, 0)...)
	wantTurn(t, 3, smalls(1, 3, 9), rat(5, 2), rat(1, 2), rat(0, 1))
	wantTurn(t, 13, smalls(1, 3, 9), rat(15, 2), rat(11, 2), rat(0, 1))
	wantTurn(t, 14, smalls(1, 3, 9), rats(8, 6, 0)...)
	wantTurn(t, 15, smalls(1, 3, 9), rat(25, 3), rat(19, 3), rat(1, 3))
	wantTurn(t, 17, smalls(1, 3, 9), rats(9, 7, 1)...)
	// 2^64 + 11 is three times the level.
	wantTurn(t, most-1, smalls(1, 3, 9), rats(most/3+3, most/3+1, most/3-5)...)
	wantPlainly(t, most, smalls(1, 3, 9))
	// By the least difference that amounts make.
	one, tiny := rat(1, 1), rat(1, most)
	less, half := new(big.Rat).Sub(one, tiny), new(big.Rat).Mul(rat(1, 2), tiny)
	wantTurn(t, 1, []ratio.Ratio{small(0, 1), fromRat(less)}, new(big.Rat).Sub(one, half), half)
	wantTurn(t, 1, []ratio.Ratio{small(0, 1), fromRat(plus(one, tiny))}, rats(1, 0)...)
}

// P12.1: as many as there may be, alone and together.
func TestHowMany(t *testing.T) {
	for _, stake := range []uint64{0, 1, 2, 1 << 32, most} {
		for _, support := range []ratio.Ratio{small(0, 1), small(1, 1), small(5, 3), small(most, 1), part(full(100)), {Num: full(100), Den: power(90)}} {
			wantTurn(t, stake, []ratio.Ratio{support}, rat(stake, 1))
			for n := 1; n <= api.MaxPicks; n++ {
				each := new(big.Rat).Quo(rat(stake, 1), rat(uint64(n), 1))
				wantTurn(t, stake, slices.Repeat([]ratio.Ratio{support}, n), slices.Repeat([]*big.Rat{each}, n)...)
			}
			wantNoTurn(t, stake, slices.Repeat([]ratio.Ratio{support}, 9), api.ErrArg)
			wantNoTurn(t, stake, slices.Repeat([]ratio.Ratio{support}, 20), api.ErrArg)
		}
		wantNoTurn(t, stake, nil, api.ErrArg)
		wantNoTurn(t, stake, []ratio.Ratio{}, api.ErrArg)
	}
	wantTurn(t, 29, smalls(0, 1, 2, 3, 4, 5, 6, 7), rat(57, 8), rat(49, 8), rat(41, 8), rat(33, 8), rat(25, 8), rat(17, 8), rat(9, 8), rat(1, 8))
	wantTurn(t, 28, smalls(0, 1, 2, 3, 4, 5, 6, 7), rats(7, 6, 5, 4, 3, 2, 1, 0)...)
	wantTurn(t, 10, smalls(0, 1, 2, 3, 4, 5, 6, 7), rats(4, 3, 2, 1, 0, 0, 0, 0)...)
}

// P12.1: equal supports, alone and among others, and supports of 0.
func TestEqualSupports(t *testing.T) {
	wantTurn(t, 1, smalls(2, 2), rat(1, 2), rat(1, 2))
	wantTurn(t, 6, smalls(9, 1, 1, 5, 1), rats(0, 2, 2, 0, 2)...)
	wantTurn(t, 12, smalls(9, 1, 1, 5, 1), rats(0, 4, 4, 0, 4)...)
	wantTurn(t, 16, smalls(9, 1, 1, 5, 1), rats(0, 5, 5, 1, 5)...)
	wantTurn(t, 3, smalls(4, 1, 4, 4), rats(0, 3, 0, 0)...)
	wantTurn(t, 5, smalls(4, 1, 4, 4), rat(1, 2), rat(7, 2), rat(1, 2), rat(1, 2))
	wantTurn(t, 0, smalls(4, 1, 4, 1), rats(0, 0, 0, 0)...)
	wantTurn(t, 0, smalls(0, 0), rats(0, 0)...)
	wantTurn(t, 5, smalls(0, 0), rat(5, 2), rat(5, 2))
	wantTurn(t, 5, smalls(0, 7, 0), rat(5, 2), rat(0, 1), rat(5, 2))
	wantTurn(t, 1, []ratio.Ratio{{Den: limb.Of(1)}, {Num: limb.Nat{}, Den: limb.Of(1)}}, rat(1, 2), rat(1, 2))
}

// permuted calls f with all orders of the numbers below n.
func permuted(n int, f func(order []int)) {
	var extend func(order []int)
	extend = func(order []int) {
		if len(order) == n {
			f(order)
		}
		for i := range n {
			if !slices.Contains(order, i) {
				extend(append(slices.Clone(order), i))
			}
		}
	}
	extend(nil)
}

// P12.1: what each one gets stands in the order of the supports.
func TestOrderOfSupports(t *testing.T) {
	supports := []ratio.Ratio{small(9, 2), small(1, 3), small(9, 1), small(1, 3), small(2, 1)}
	for stake := range uint64(20) {
		want := plainTurn(stake, toRats(supports))
		permuted(len(supports), func(order []int) {
			var given []ratio.Ratio
			var wanted []*big.Rat
			for _, i := range order {
				given = append(given, supports[i])
				wanted = append(wanted, want[i])
			}
			wantTurn(t, stake, given, wanted...)
		})
	}
}

func illFormed() []ratio.Ratio {
	return []ratio.Ratio{
		{}, {Num: limb.Of(1)}, {Den: limb.Of(0)}, small(2, 4), small(0, 2), small(3, 3), small(1, 0), small(0, 0),
		{Num: limb.Nat{1, 0}, Den: limb.Of(1)}, {Num: limb.Of(1), Den: limb.Nat{1, 0}}, {Num: limb.Nat{0}, Den: limb.Of(1)},
		{Num: power(400), Den: limb.Of(1)}, {Num: limb.Of(1), Den: full(401)}, {Num: full(400), Den: full(400)},
	}
}

// P12.1: a support that is not well formed is refused at each place, whatever
// else there is.
func TestIllFormedSupports(t *testing.T) {
	long := []ratio.Ratio{part(full(201)), part(power(201)), {Num: full(400), Den: limb.Of(1)}}
	for _, bad := range illFormed() {
		for _, stake := range []uint64{0, 1, most} {
			for _, others := range [][]ratio.Ratio{nil, smalls(1, 2), smalls(9, 8, 7, 6, 5, 4, 3), long, smalls(1, 2, 3, 4, 5, 6, 7, 8)} {
				for place := range len(others) + 1 {
					wantNoTurn(t, stake, slices.Insert(slices.Clone(others), place, bad), api.ErrArg)
				}
			}
			wantNoTurn(t, stake, []ratio.Ratio{bad, bad}, api.ErrArg)
		}
	}
}

// P12.1: sums that are too long, and sums that just are not.
func TestLongSums(t *testing.T) {
	longest, next := ratio.Ratio{Num: full(400), Den: limb.Of(1)}, ratio.Ratio{Num: full(400), Den: limb.Of(1)}
	next.Num[0]--
	wantNoTurn(t, 1, []ratio.Ratio{longest}, api.ErrLong)
	wantNoTurn(t, most, []ratio.Ratio{longest}, api.ErrLong)
	wantNoTurn(t, 2, []ratio.Ratio{next}, api.ErrLong)
	wantNoTurn(t, 1, []ratio.Ratio{longest, longest}, api.ErrLong)
	wantNoTurn(t, 1, []ratio.Ratio{next, next}, api.ErrLong)
	wantTurn(t, 0, []ratio.Ratio{longest}, rats(0)...)
	wantTurn(t, 0, []ratio.Ratio{longest, longest, next}, rats(0, 0, 0)...)
	wantTurn(t, 1, []ratio.Ratio{next}, rats(1)...)
	// Sums that have no need of the long ones.
	wantTurn(t, 1, []ratio.Ratio{longest, next}, rats(0, 1)...)
	wantTurn(t, 9, []ratio.Ratio{longest, small(3, 1), longest, next, small(4, 1)}, rats(0, 5, 0, 0, 4)...)
	// Half of the greatest.
	half := ratio.Ratio{Num: full(400), Den: limb.Of(1)}
	half.Num[399] >>= 1
	wantTurn(t, 1, []ratio.Ratio{half, half}, rat(1, 2), rat(1, 2))
	wantNoTurn(t, 2, []ratio.Ratio{half, half}, api.ErrLong)
}

// P12.1: denominators of which nothing divides two.
func TestLongDenominators(t *testing.T) {
	a, b := part(full(201)), part(power(201))
	wantNoTurn(t, 1, []ratio.Ratio{a, b}, api.ErrLong)
	wantNoTurn(t, 1, []ratio.Ratio{b, a}, api.ErrLong)
	wantNoTurn(t, 7, append(smalls(0, 5), a, b), api.ErrLong)
	wantTurn(t, 0, []ratio.Ratio{b, a}, rats(0, 0)...)
	wantTurn(t, 1, []ratio.Ratio{a}, rats(1)...)
	// The two are too long for a sum, and lie below, at or above the level.
	c, d := more(10, full(201)), more(10, power(201))
	wantTurn(t, 10, append(smalls(0), c, d), rats(10, 0, 0)...)
	wantTurn(t, 10, append(smalls(0), d, c), rats(10, 0, 0)...)
	wantPlainly(t, 20, append(smalls(0, 0), c, d))
	wantNoTurn(t, 11, append(smalls(0), d, c), api.ErrLong)
	wantNoTurn(t, 21, append(smalls(0, 0), d, c), api.ErrLong)
	// Just not too long: two of 200 limbs, eight of 50 or 44.
	wantPlainly(t, 1, []ratio.Ratio{part(full(200)), part(power(199))})
	wantPlainly(t, most, []ratio.Ratio{part(power(199)), part(full(199))})
	for _, n := range []int{49, 44} {
		var list []ratio.Ratio
		for k := range 8 {
			den := full(n)
			den[0] -= []uint32{0, 2, 4, 8, 14, 26, 38, 62}[k]
			list = append(list, part(den))
		}
		wantPlainly(t, 1, list)
		wantPlainly(t, most>>1, list)
	}
	// Equal ones of 200 limbs: the product of two just has 400.
	wantPlainly(t, 1, slices.Repeat([]ratio.Ratio{part(full(200))}, 8))
	wantPlainly(t, most, slices.Repeat([]ratio.Ratio{part(full(200))}, 3))
	wantNoTurn(t, 1, slices.Repeat([]ratio.Ratio{a}, 8), api.ErrLong)
}

// P12.1: a quotient that is too long, and one that just is not.
func TestLongQuotients(t *testing.T) {
	// 2^12799, and 2^12799 - 1 and 2^12798, whose double just has 400 limbs.
	above, below, half := power(399), full(400), power(399)
	above[399], below[399], half[399] = 1<<31, 1<<31-1, 1<<30
	wantNoTurn(t, 1, []ratio.Ratio{small(0, 1), part(above)}, api.ErrLong)
	wantNoTurn(t, 1, []ratio.Ratio{part(above), small(0, 1)}, api.ErrLong)
	wantPlainly(t, 1, []ratio.Ratio{small(0, 1), part(below)})
	wantPlainly(t, 1, []ratio.Ratio{part(half), small(0, 1)})
	wantPlainly(t, 0, []ratio.Ratio{part(above), small(0, 1)})
	wantPlainly(t, 1, []ratio.Ratio{part(above)})
	// A quotient by three.
	wantNoTurn(t, 1, []ratio.Ratio{small(0, 1), part(below), small(0, 1)}, api.ErrLong)
	wantPlainly(t, 1, []ratio.Ratio{small(0, 1), part(half), small(0, 1)})
}

// P12.1: differences are not too long as long as there are sums and quotients:
// those of layer 2 would be.
func TestLongDifferences(t *testing.T) {
	wantTurn(t, 1, []ratio.Ratio{part(power(399))}, rats(1)...)
	wantTurn(t, 5, []ratio.Ratio{more(7, full(399))}, rats(5)...)
	wantPlainly(t, 5, []ratio.Ratio{small(1, 3), more(2, full(300)), small(1, 5), small(9, 1)})
	wantPlainly(t, 1, []ratio.Ratio{more(1, full(300)), more(1, power(90)), small(1, 2), small(1, 2)})
	// Their denominators are cancelled in the sum, but not where they are
	// subtracted: 1/d and 1 - 1/d.
	d := full(99)
	rest := fromRat(new(big.Rat).Sub(rat(1, 1), toRat(part(d))))
	wantPlainly(t, 9, []ratio.Ratio{part(d), rest, more(2, power(299))})
	// Here what 1/d gets is itself a fraction of more than 400 limbs, be it
	// that its denominator is too long or its numerator.
	wantNoTurn(t, 9, []ratio.Ratio{part(d), rest, more(2, power(305))}, api.ErrLong)
	wantNoTurn(t, 9, []ratio.Ratio{more(2, power(305)), part(d), rest}, api.ErrLong)
	z := power(300)
	z[300] = 1 << 30
	wantNoTurn(t, 1<<63, []ratio.Ratio{part(d), rest, more(2, z)}, api.ErrLong)
	wantNoTurn(t, 1<<63, []ratio.Ratio{more(2, z), rest, part(d)}, api.ErrLong)
}

// P12.1: comparisons are not too long either, and tell all fractions apart.
func TestLongComparisons(t *testing.T) {
	n := new(big.Rat).SetInt(toBig(power(195)))
	low := fromRat(plus(n, toRat(part(power(200)))))
	high := fromRat(plus(n, toRat(more(3, full(201)))))
	below, above := fromRat(new(big.Rat).Sub(rat(3, 1), toRat(part(power(300))))), more(3, full(300))
	if ratio.Cmp(low, high) != 0 || ratio.Cmp(below, above) != 0 {
		t.Fatal("layer 2 can tell them apart")
	}
	for stake := range uint64(3) {
		wantTurn(t, stake, []ratio.Ratio{low, high}, rats(stake, 0)...)
		wantTurn(t, stake, []ratio.Ratio{high, low}, rats(0, stake)...)
	}
	wantNoTurn(t, 3, []ratio.Ratio{high, low}, api.ErrLong)
	list := []ratio.Ratio{small(0, 1), above, below, small(9, 1)}
	permuted(len(list), func(order []int) {
		var given []ratio.Ratio
		for _, i := range order {
			given = append(given, list[i])
		}
		wantPlainly(t, 2, given)
		wantPlainly(t, 3, given)
		wantNoTurn(t, 4, given, api.ErrLong)
	})
}

// P12.1, P12.3: random turns, held against the plain reckoning.
func TestManyTurns(t *testing.T) {
	r := rand.New(rand.NewSource(1))
	for range 3000 {
		var supports []ratio.Ratio
		for range 1 + r.Intn(api.MaxPicks) {
			supports = append(supports, someRatio(r))
		}
		for i := range supports {
			if r.Intn(6) == 0 {
				supports[i] = supports[0]
			}
		}
		wantPlainly(t, r.Uint64()>>r.Intn(65), supports)
	}
}

func someRatio(r *rand.Rand) ratio.Ratio {
	shift := r.Intn(64)
	a, _ := ratio.Of(r.Uint64()>>shift, 1+r.Uint64()>>1>>min(63, shift+r.Intn(20)))
	return a
}

// P12.3: whatever the voter gave before of the same stake, the least support
// does not decrease.
func TestLeastSupport(t *testing.T) {
	r := rand.New(rand.NewSource(2))
	for range 500 {
		var supports []ratio.Ratio
		var stake uint64
		var least *big.Rat
		for range 1 + r.Intn(api.MaxPicks) {
			support, given := someRatio(r), r.Uint64()>>3>>r.Intn(61)
			supports = append(supports, support)
			stake += given
			if before := plus(toRat(support), rat(given, 1)); least == nil || before.Cmp(least) < 0 {
				least = before
			}
		}
		got, e := Turn(stake, supports)
		if e != api.OK {
			t.Fatalf("Turn(%d, %v): %v", stake, supports, e)
		}
		for i, weight := range got {
			if plus(toRat(supports[i]), toRat(weight)).Cmp(least) < 0 {
				t.Errorf("Turn(%d, %v): %v, less than %v", stake, supports, got, least)
			}
		}
	}
}
