package whole

import (
	"math"
	"math/big"
	"math/rand"
	"slices"
	"testing"

	"psephos/api"
	"psephos/limb"
	"psephos/ratio"
)

const most = math.MaxUint64

func small(num, den uint64) ratio.Ratio {
	return ratio.Ratio{Num: limb.Of(num), Den: limb.Of(den)}
}

// fractions takes pairs of a numerator and a denominator.
func fractions(pairs ...uint64) []ratio.Ratio {
	var out []ratio.Ratio
	for i := 0; i < len(pairs); i += 2 {
		out = append(out, small(pairs[i], pairs[i+1]))
	}
	return out
}

func toBig(a limb.Nat) *big.Int {
	n := new(big.Int)
	for i := len(a) - 1; i >= 0; i-- {
		n.Lsh(n, 32)
		n.Or(n, big.NewInt(int64(a[i])))
	}
	return n
}

func toRat(a ratio.Ratio) *big.Rat {
	return new(big.Rat).SetFrac(toBig(a.Num), toBig(a.Den))
}

func toRats(list []ratio.Ratio) []*big.Rat {
	var out []*big.Rat
	for _, a := range list {
		out = append(out, toRat(a))
	}
	return out
}

func toNat(n *big.Int) limb.Nat {
	var list limb.Nat
	for n = new(big.Int).Set(n); n.Sign() > 0; n.Rsh(n, 32) {
		list = append(list, uint32(new(big.Int).And(n, big.NewInt(1<<32-1)).Uint64()))
	}
	return list
}

func fromRat(a *big.Rat) ratio.Ratio {
	return ratio.Ratio{Num: toNat(a.Num()), Den: toNat(a.Denom())}
}

func plus(a, b *big.Rat) *big.Rat { return new(big.Rat).Add(a, b) }

func minus(a, b *big.Rat) *big.Rat { return new(big.Rat).Sub(a, b) }

func times(a, b *big.Rat) *big.Rat { return new(big.Rat).Mul(a, b) }

func floor(a *big.Rat) *big.Int { return new(big.Int).Quo(a.Num(), a.Denom()) }

func integers(list ...uint64) []*big.Int {
	var out []*big.Int
	for _, n := range list {
		out = append(out, new(big.Int).SetUint64(n))
	}
	return out
}

// is reports whether a is well formed and is that integer.
func is(a limb.Nat, want *big.Int) bool { return limb.Formed(a) && toBig(a).Cmp(want) == 0 }

// full returns the greatest natural of n limbs, and power the least one of
// n + 1 limbs; nothing divides both.
func full(n int) limb.Nat { return slices.Repeat(limb.Nat{1<<32 - 1}, n) }

func power(n int) limb.Nat { return append(make(limb.Nat, n), 1) }

func whole(a limb.Nat) ratio.Ratio { return ratio.Ratio{Num: a, Den: limb.Of(1)} }

// part returns 1 / den, and rest returns 1 - 1 / den.
func part(den limb.Nat) ratio.Ratio { return ratio.Ratio{Num: limb.Of(1), Den: den} }

func rest(den limb.Nat) ratio.Ratio { return fromRat(minus(big.NewRat(1, 1), toRat(part(den)))) }

// plainRound gives unit after unit to the first one of those from which most
// was cut off and which have none yet.
func plainRound(weights []*big.Rat) []*big.Int {
	sum, units := new(big.Rat), new(big.Int)
	var list []*big.Int
	var left []*big.Rat
	for _, w := range weights {
		sum.Add(sum, w)
		list = append(list, floor(w))
		left = append(left, minus(w, new(big.Rat).SetInt(floor(w))))
		units.Sub(units, floor(w))
	}
	units.Add(units, floor(sum))
	for range units.Int64() {
		best := 0
		for i := range left {
			if left[i].Cmp(left[best]) > 0 {
				best = i
			}
		}
		list[best] = new(big.Int).Add(list[best], big.NewInt(1))
		left[best] = big.NewRat(-1, 1)
	}
	return list
}

// wantRound holds a rounding against what is wanted, and that against the
// plain reckoning.
func wantRound(t *testing.T, weights []ratio.Ratio, want ...*big.Int) {
	t.Helper()
	got, e := Round(weights)
	if e != api.OK || !slices.EqualFunc(got, want, is) {
		t.Errorf("Round(%v): %v, %v, wanted %v", weights, got, e, want)
	}
	plain := plainRound(toRats(weights))
	if !slices.EqualFunc(plain, want, func(a, b *big.Int) bool { return a.Cmp(b) == 0 }) {
		t.Errorf("Round(%v): %v wanted, and %v by the plain reckoning", weights, want, plain)
	}
	checkRound(t, weights, got)
}

func wantPlainly(t *testing.T, weights []ratio.Ratio) {
	t.Helper()
	wantRound(t, weights, plainRound(toRats(weights))...)
}

// checkRound checks that the integers are together the sum, rounded down, and
// each one is its weight, rounded down, or one more.
func checkRound(t *testing.T, weights []ratio.Ratio, got []limb.Nat) {
	t.Helper()
	if len(got) != len(weights) {
		return
	}
	sum, all := new(big.Rat), new(big.Int)
	for i, w := range weights {
		sum.Add(sum, toRat(w))
		all.Add(all, toBig(got[i]))
		over := new(big.Int).Sub(toBig(got[i]), floor(toRat(w)))
		if over.Sign() != 0 && over.Cmp(big.NewInt(1)) != 0 {
			t.Errorf("Round(%v): %v for %v", weights, toBig(got[i]), toRat(w))
		}
	}
	if all.Cmp(floor(sum)) != 0 {
		t.Errorf("Round(%v): %v in all, wanted %v", weights, all, floor(sum))
	}
}

// wantNoRound holds what is refused.
func wantNoRound(t *testing.T, weights []ratio.Ratio, want api.Errno) {
	t.Helper()
	if got, e := Round(weights); e != want || got != nil {
		t.Errorf("Round(%v): %v, %v, wanted %v", weights, got, e, want)
	}
}

// P13.1: the chapter's examples, and the like.
func TestRound(t *testing.T) {
	wantRound(t, fractions(1, 2, 1, 2), integers(1, 0)...)
	wantRound(t, fractions(1, 3, 1, 3, 1, 3), integers(1, 0, 0)...)
	wantRound(t, fractions(5, 2, 1, 4), integers(2, 0)...)
	wantRound(t, fractions(1, 4, 5, 2), integers(0, 2)...)
	wantRound(t, fractions(1, 4, 7, 4), integers(0, 2)...)
	wantRound(t, fractions(7, 4, 1, 4), integers(2, 0)...)
	wantRound(t, fractions(5, 4, 3, 4), integers(1, 1)...)
	wantRound(t, fractions(12, 7, 9, 7), integers(2, 1)...)
	wantRound(t, fractions(9, 7, 12, 7), integers(1, 2)...)
}

// P13.1: none, one and many weights.
func TestHowMany(t *testing.T) {
	wantRound(t, nil)
	wantRound(t, []ratio.Ratio{})
	for _, c := range [][3]uint64{{0, 1, 0}, {1, most, 0}, {1, 2, 0}, {most - 1, most, 0}, {1, 1, 1}, {3, 2, 1}, {5, 1, 5}, {most, 2, most / 2}, {most, 1, most}} {
		wantRound(t, fractions(c[0], c[1]), integers(c[2])...)
	}
	wantRound(t, []ratio.Ratio{whole(full(400))}, toBig(full(400)))
	wantRound(t, []ratio.Ratio{part(full(400))}, integers(0)...)
	wantRound(t, []ratio.Ratio{{Num: full(400), Den: power(399)}}, integers(1<<32-1)...)
	for _, n := range []int{2, 7, 8, 9, 32, 33, 256, 257, 1000} {
		wantRound(t, slices.Repeat(fractions(2, 1), n), slices.Repeat(integers(2), n)...)
		half := append(slices.Repeat(integers(1), n/2), slices.Repeat(integers(0), n-n/2)...)
		wantRound(t, slices.Repeat(fractions(1, 2), n), half...)
		third := append(slices.Repeat(integers(2), n*2/3), slices.Repeat(integers(1), n-n*2/3)...)
		wantRound(t, slices.Repeat(fractions(5, 3), n), third...)
	}
}

// P13.1: no unit, one unit, and one for all but one.
func TestUnits(t *testing.T) {
	wantRound(t, fractions(1, 9, 2, 9, 1, 3, 2, 9), integers(0, 0, 0, 0)...)
	wantRound(t, fractions(1, 9, 2, 9, 1, 3, 1, 3), integers(0, 0, 1, 0)...)
	wantRound(t, fractions(1, 9, 2, 3, 1, 3, 1, 3), integers(0, 1, 0, 0)...)
	for n := uint64(2); n <= 40; n++ {
		want := slices.Repeat(integers(1), int(n))
		want[n-1] = big.NewInt(0)
		wantRound(t, slices.Repeat(fractions(n-1, n), int(n)), want...)
	}
}

// P13.1: the one from which least was cut off gets none wherever it is; if it
// is less by a bit, the sum is not whole, and the last one of the others gets
// none either.
func TestUnitsForAllButOne(t *testing.T) {
	for n := uint64(3); n <= 40; n++ {
		for place := range int(n) {
			list, want := slices.Repeat(fractions(n*(n-1)-1, n*(n-1)), int(n)), slices.Repeat(integers(1), int(n))
			list[place], want[place] = small(1, n), big.NewInt(0)
			wantRound(t, list, want...)
			list[place] = small(1, n+1)
			last := int(n) - 1
			if place == last {
				last--
			}
			want[last] = big.NewInt(0)
			wantRound(t, list, want...)
		}
	}
}

// P13.1: weights that are 0 or whole get no unit.
func TestWholeWeights(t *testing.T) {
	wantRound(t, fractions(0, 1), integers(0)...)
	wantRound(t, fractions(0, 1, 0, 1, 0, 1), integers(0, 0, 0)...)
	wantRound(t, fractions(3, 1, 0, 1, 7, 1), integers(3, 0, 7)...)
	wantRound(t, fractions(0, 1, 1, 2, 9, 1, 1, 2, 0, 1), integers(0, 1, 9, 0, 0)...)
	wantRound(t, fractions(5, 1, 1, most, 9, 1, most-1, most), integers(5, 0, 9, 1)...)
	wantRound(t, fractions(5, 1, 2, 3, 9, 1, 2, 3, 2, 3), integers(5, 1, 9, 1, 0)...)
	wantRound(t, []ratio.Ratio{{Den: limb.Of(1)}, {Num: limb.Nat{}, Den: limb.Of(1)}}, integers(0, 0)...)
}

// permuted calls f with all orders of the numbers below n.
func permuted(n int, f func(order []int)) {
	var extend func(order []int)
	extend = func(order []int) {
		if len(order) == n {
			f(order)
		}
		for i := range n {
			if !slices.Contains(order, i) {
				extend(append(slices.Clone(order), i))
			}
		}
	}
	extend(nil)
}

func taken[T any](list []T, order []int) []T {
	var out []T
	for _, i := range order {
		out = append(out, list[i])
	}
	return out
}

// P13.1: what counts is what was cut off, and not the weight, in any order.
func TestFractions(t *testing.T) {
	// Together 15 + 2, and 2/3, 3/5, 1/2, 7/30 and 0 are cut off.
	list, want := fractions(2, 3, 13, 5, 11, 2, 187, 30, 2, 1), integers(1, 3, 5, 6, 2)
	permuted(len(list), func(order []int) {
		wantRound(t, taken(list, order), taken(want, order)...)
	})
	// By the least difference that amounts make.
	close := fractions(most/2, most, most/2+1, most, 1, 1)
	want = integers(0, 1, 1)
	permuted(len(close), func(order []int) {
		wantRound(t, taken(close, order), taken(want, order)...)
	})
}

// P13.1: of equal fractions the first ones get the units, whatever the whole
// parts.
func TestEqualFractions(t *testing.T) {
	wantRound(t, fractions(1, 2, 3, 2), integers(1, 1)...)
	wantRound(t, fractions(3, 2, 1, 2), integers(2, 0)...)
	wantRound(t, fractions(2, 3, 5, 3, 8, 3), integers(1, 2, 2)...)
	wantRound(t, fractions(8, 3, 5, 3, 2, 3), integers(3, 2, 0)...)
	wantRound(t, fractions(7, 3, 4, 3, 1, 3), integers(3, 1, 0)...)
	wantRound(t, fractions(1, 3, 1, 2, 7, 3, 9, 2, 1, 3), integers(0, 1, 2, 5, 0)...)
	wantRound(t, fractions(1, 4, 5, 4, 1, 4, 3, 4, 1, 2), integers(0, 1, 0, 1, 1)...)
	wantRound(t, fractions(1, 5, 11, 5, 3, 5, 1, 5, 4, 5), integers(0, 2, 1, 0, 1)...)
	wantRound(t, fractions(1, 5, 11, 5, 1, 5, 1, 5, 1, 5), integers(1, 2, 0, 0, 0)...)
	wantRound(t, fractions(0, 1, 11, 5, 6, 5, 1, 5, 2, 5), integers(0, 2, 1, 0, 1)...)
	wantRound(t, fractions(9, 1, 11, 4, 15, 4, 3, 4, 3, 4, 1, 1), integers(9, 3, 4, 1, 0, 1)...)
}

// P13.1: sums that are whole, just below and just above a whole number.
func TestSums(t *testing.T) {
	wantRound(t, fractions(1, 3, 2, 3), integers(0, 1)...)
	bit := toRat(small(1, most))
	wantRound(t, []ratio.Ratio{small(1, 3), fromRat(plus(big.NewRat(2, 3), bit))}, integers(0, 1)...)
	wantRound(t, []ratio.Ratio{small(1, 3), fromRat(minus(big.NewRat(2, 3), bit))}, integers(0, 0)...)
	wantRound(t, fractions(most-1, most, 1, most), integers(1, 0)...)
	wantRound(t, fractions(most-2, most, 1, most), integers(0, 0)...)
	wantRound(t, fractions(most-1, most, 2, most), integers(1, 0)...)
	wantRound(t, fractions(5, 2, 5, 2, 5, 2, 5, 2), integers(3, 3, 2, 2)...)
	wantRound(t, fractions(5, 2, 5, 2, 5, 2), integers(3, 2, 2)...)
	for _, d := range []limb.Nat{limb.Of(most), full(50), full(100), full(133)} {
		third := []ratio.Ratio{small(1, 3), small(1, 3), fromRat(plus(big.NewRat(1, 3), toRat(part(d))))}
		wantRound(t, third, integers(0, 0, 1)...)
		third[2] = fromRat(minus(big.NewRat(1, 3), toRat(part(d))))
		wantRound(t, third, integers(0, 0, 0)...)
	}
}

func illFormed() []ratio.Ratio {
	return []ratio.Ratio{
		{}, {Num: limb.Of(1)}, {Den: limb.Of(0)}, small(2, 4), small(0, 2), small(3, 3), small(1, 0), small(0, 0),
		{Num: limb.Nat{1, 0}, Den: limb.Of(1)}, {Num: limb.Of(1), Den: limb.Nat{1, 0}}, {Num: limb.Nat{0}, Den: limb.Of(1)},
		{Num: power(400), Den: limb.Of(1)}, {Num: limb.Of(1), Den: full(401)}, {Num: full(400), Den: full(400)},
	}
}

// P13.1: a weight that is not well formed is refused at each place, whatever
// else there is.
func TestIllFormedWeights(t *testing.T) {
	long := []ratio.Ratio{part(full(201)), part(power(201)), whole(full(400)), whole(full(400))}
	for _, bad := range illFormed() {
		for _, others := range [][]ratio.Ratio{nil, fractions(1, 2), fractions(9, 1, 8, 1, 7, 1, 6, 1, 5, 2, 0, 1, 1, 2), long, slices.Repeat(fractions(1, 3), 20)} {
			for place := range len(others) + 1 {
				wantNoRound(t, slices.Insert(slices.Clone(others), place, bad), api.ErrArg)
			}
		}
		wantNoRound(t, []ratio.Ratio{bad, bad}, api.ErrArg)
	}
}

// P13.1: great weights.
func TestGreatWeights(t *testing.T) {
	a, b := plus(toRat(whole(full(300))), big.NewRat(1, 2)), plus(toRat(whole(power(299))), big.NewRat(1, 2))
	above := new(big.Int).Add(toBig(full(300)), big.NewInt(1))
	wantRound(t, []ratio.Ratio{fromRat(a), fromRat(b)}, above, toBig(power(299)))
	wantRound(t, []ratio.Ratio{fromRat(b), fromRat(a)}, new(big.Int).Add(toBig(power(299)), big.NewInt(1)), toBig(full(300)))
	wantPlainly(t, []ratio.Ratio{fromRat(a), small(2, 3), fromRat(b), whole(power(200)), small(1, 3)})
	wantPlainly(t, []ratio.Ratio{small(2, 3), fromRat(b), small(2, 3), fromRat(a)})
	wantPlainly(t, []ratio.Ratio{{Num: full(300), Den: power(30)}, {Num: power(250), Den: full(35)}, small(9, 10)})
	wantPlainly(t, []ratio.Ratio{small(most-1, most), whole(full(390)), small(most-1, most), small(1, 2)})
}

// P13.1: sums that are too long, and sums that just are not.
func TestLongSums(t *testing.T) {
	longest, next := whole(full(400)), whole(full(400))
	next.Num[0]--
	wantNoRound(t, []ratio.Ratio{longest, small(1, 1)}, api.ErrLong)
	wantNoRound(t, []ratio.Ratio{small(1, 1), longest}, api.ErrLong)
	wantNoRound(t, []ratio.Ratio{next, small(2, 1)}, api.ErrLong)
	wantNoRound(t, []ratio.Ratio{next, small(1, 1), small(1, 1)}, api.ErrLong)
	wantNoRound(t, []ratio.Ratio{longest, longest}, api.ErrLong)
	wantRound(t, []ratio.Ratio{longest, small(0, 1)}, toBig(full(400)), big.NewInt(0))
	wantRound(t, []ratio.Ratio{next, small(1, 1)}, toBig(next.Num), big.NewInt(1))
	wantRound(t, []ratio.Ratio{small(0, 1), small(1, 1), next}, big.NewInt(0), big.NewInt(1), toBig(next.Num))
	// The integers would have fitted, but not the sum over one denominator.
	wantNoRound(t, []ratio.Ratio{longest, small(1, 2)}, api.ErrLong)
	wantNoRound(t, []ratio.Ratio{small(1, 2), longest}, api.ErrLong)
	wantNoRound(t, []ratio.Ratio{whole(power(399)), small(1, 1<<32)}, api.ErrLong)
	half := whole(full(400))
	half.Num[399] >>= 1
	wantRound(t, []ratio.Ratio{half, small(1, 2)}, toBig(half.Num), big.NewInt(0))
	wantRound(t, []ratio.Ratio{small(1, 1), half, half}, big.NewInt(1), toBig(half.Num), toBig(half.Num))
	wantNoRound(t, []ratio.Ratio{small(2, 1), half, half}, api.ErrLong)
}

// P13.1: denominators of which nothing divides two, and equal ones: their
// product counts.
func TestLongDenominators(t *testing.T) {
	a, b := part(full(201)), part(power(200))
	wantNoRound(t, []ratio.Ratio{a, b}, api.ErrLong)
	wantNoRound(t, []ratio.Ratio{b, a}, api.ErrLong)
	wantNoRound(t, []ratio.Ratio{a, a}, api.ErrLong)
	wantNoRound(t, []ratio.Ratio{small(1, 1), small(1, 2), small(1, 2), rest(full(201)), a}, api.ErrLong)
	wantRound(t, []ratio.Ratio{part(full(200)), part(power(199))}, integers(0, 0)...)
	wantRound(t, []ratio.Ratio{rest(full(200)), rest(power(199))}, integers(1, 0)...)
	wantRound(t, []ratio.Ratio{rest(power(199)), rest(full(200))}, integers(0, 1)...)
	wantRound(t, []ratio.Ratio{part(full(200)), rest(full(200))}, integers(0, 1)...)
	wantRound(t, []ratio.Ratio{rest(full(199)), rest(full(199)), rest(full(199)), part(full(199))}, integers(1, 1, 0, 0)...)
	wantNoRound(t, []ratio.Ratio{rest(full(200)), rest(full(200)), rest(full(200))}, api.ErrLong)
	wantRound(t, []ratio.Ratio{a, small(7, 2)}, integers(0, 3)...)
	for _, n := range []int{49, 44} {
		var list []ratio.Ratio
		for k := range 8 {
			den := full(n)
			den[0] -= []uint32{0, 2, 4, 8, 14, 26, 38, 62}[k]
			list = append(list, part(den), rest(den))
		}
		wantPlainly(t, list[:8])
		wantPlainly(t, taken(list, []int{1, 3, 5, 7, 9, 11, 13, 15}))
		wantPlainly(t, taken(list, []int{15, 13, 11, 9, 7, 5, 3, 1}))
		wantPlainly(t, taken(list, []int{0, 3, 4, 7, 8, 11, 12, 15}))
		wantPlainly(t, list)
	}
}

// P13.1: what was cut off is told apart where no sum is too long, but the
// products by which layer 2 compares are: the sum of the first two is whole.
func TestLongComparisons(t *testing.T) {
	for _, n := range []int{150, 200} {
		num := new(big.Int).Add(toBig(full(n)), big.NewInt(1))
		high := fromRat(new(big.Rat).SetFrac(num.Rsh(num, 1), toBig(full(n))))
		low := fromRat(minus(big.NewRat(1, 1), toRat(high)))
		for _, den := range []limb.Nat{power(399), full(399)} {
			below := floor(times(toRat(high), new(big.Rat).SetInt(toBig(den))))
			for more := range int64(2) {
				last := new(big.Rat).SetFrac(new(big.Int).Add(below, big.NewInt(more)), toBig(den))
				if ratio.Cmp(high, fromRat(last)) != 0 || last.Cmp(toRat(high)) != int(2*more-1) {
					t.Fatal("layer 2 can tell them apart")
				}
				unit := uint64(more)
				wantRound(t, []ratio.Ratio{high, low, fromRat(last)}, integers(1-unit, 0, unit)...)
				wantRound(t, []ratio.Ratio{low, high, fromRat(last)}, integers(0, 1-unit, unit)...)
				wantNoRound(t, []ratio.Ratio{high, fromRat(last), low}, api.ErrLong)
			}
		}
	}
}

// someRatio returns a fraction of amounts, often one with a little denominator.
func someRatio(r *rand.Rand) ratio.Ratio {
	shift := r.Intn(64)
	den := 1 + r.Uint64()>>1>>min(63, shift+r.Intn(20))
	if r.Intn(2) == 0 {
		den = 1 + r.Uint64()%6
	}
	a, _ := ratio.Of(r.Uint64()>>shift, den)
	return a
}

// someLong returns a fraction of up to 40 limbs.
func someLong(r *rand.Rand) ratio.Ratio {
	num, den := make([]byte, r.Intn(160)), make([]byte, 1+r.Intn(160))
	r.Read(num)
	r.Read(den)
	den[0] |= 1
	return fromRat(new(big.Rat).SetFrac(new(big.Int).SetBytes(num), new(big.Int).SetBytes(den)))
}

// P13.1: random weights, held against the plain reckoning.
func TestManyRounds(t *testing.T) {
	r := rand.New(rand.NewSource(1))
	for i := range 3000 {
		var weights []ratio.Ratio
		for range r.Intn(10) {
			if i%10 == 0 {
				weights = append(weights, someLong(r))
			} else {
				weights = append(weights, someRatio(r))
			}
		}
		for i := range weights {
			switch r.Intn(9) {
			case 0:
				weights[i] = weights[0]
			case 1:
				weights[i] = fromRat(plus(toRat(weights[0]), new(big.Rat).SetInt64(r.Int63n(9))))
			}
		}
		wantPlainly(t, weights)
	}
	for range 20 {
		var weights []ratio.Ratio
		for range r.Intn(400) {
			weights = append(weights, fromRat(big.NewRat(r.Int63n(99), 1+r.Int63n(12))))
		}
		wantPlainly(t, weights)
	}
}
