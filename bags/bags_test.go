package bags

import (
	"fmt"
	"math"
	"math/rand"
	"slices"
	"testing"

	"psephos/api"
)

const most = math.MaxUint64

// ascending returns n thresholds: first, and each next one greater by step.
func ascending(n int, first, step uint64) []uint64 {
	list := make([]uint64, n)
	for i := range list {
		list[i] = first + uint64(i)*step
	}
	return list
}

func wellFormed() [][]uint64 {
	return [][]uint64{
		nil,
		{},
		{0},
		{1},
		{10},
		{most - 1},
		{most},
		{0, 1},
		{0, most},
		{10, 20},
		{most - 1, most},
		{0, 1, 2},
		{5, 6, 1000, 1 << 32, 1 << 63},
		{0, 1 << 63, most},
		ascending(api.MaxBags-1, 7, 3),
		ascending(api.MaxBags, 0, 1),
		ascending(api.MaxBags, most-99*5, 5),
	}
}

func illFormed() [][]uint64 {
	return [][]uint64{
		{0, 0},
		{5, 5},
		{most, most},
		{1, 0},
		{most, 0},
		{5, 5, 6, 7},
		{5, 6, 6, 7},
		{5, 6, 7, 7},
		{6, 5, 7, 8},
		{5, 7, 6, 8},
		{5, 7, 8, 6},
		{5, 7, 6, 6},
		{1, 2, 3, 1},
		{20, 10},
		make([]uint64, api.MaxBags),
		make([]uint64, api.MaxBags+1),
		ascending(api.MaxBags+1, 0, 1),
		ascending(api.MaxBags+1, 7, 3),
		ascending(5000, 1, 1),
		append(ascending(api.MaxBags-1, 1, 1), 99),
		append(ascending(api.MaxBags-1, 1, 1), 98),
	}
}

// plainBag goes through the thresholds one by one, by the chapter's words.
func plainBag(thresholds []uint64, stake uint64) int {
	for i, threshold := range thresholds {
		if !(threshold < stake) {
			return i
		}
	}
	return len(thresholds)
}

// telling returns the stakes at which the bag can change, and their
// neighbours: a bag to which any stake belongs has its least and its greatest
// stake among them.
func telling(thresholds []uint64) []uint64 {
	list := []uint64{0, 1, 1 << 63, most - 1, most}
	for _, threshold := range thresholds {
		list = append(list, threshold-1, threshold, threshold+1)
	}
	slices.Sort(list)
	return slices.Compact(list)
}

func plainBounds(thresholds []uint64, bag int) (uint64, uint64, api.Errno) {
	var inside []uint64
	for _, stake := range telling(thresholds) {
		if plainBag(thresholds, stake) == bag {
			inside = append(inside, stake)
		}
	}
	if len(inside) == 0 {
		return 0, 0, api.ErrNone
	}
	return inside[0], inside[len(inside)-1], api.OK
}

func checkBag(t *testing.T, thresholds []uint64, stake uint64, want int, wantE api.Errno) {
	t.Helper()
	if got, e := Bag(thresholds, stake); got != want || e != wantE {
		t.Errorf("Bag(%d, %d): %d, %d, wanted %d, %d", thresholds, stake, got, e, want, wantE)
	}
}

func checkBounds(t *testing.T, thresholds []uint64, bag int, low, high uint64, wantE api.Errno) {
	t.Helper()
	if a, b, e := Bounds(thresholds, bag); a != low || b != high || e != wantE {
		t.Errorf("Bounds(%d, %d): %d, %d, %d, wanted %d, %d, %d", thresholds, bag, a, b, e, low, high, wantE)
	}
}

// checkAgainstPlain holds Bag and Bounds against plain search, at every stake
// and every bag that can tell a difference.
func checkAgainstPlain(t *testing.T, thresholds []uint64, stakes []uint64) {
	t.Helper()
	for _, stake := range stakes {
		checkBag(t, thresholds, stake, plainBag(thresholds, stake), api.OK)
	}
	for bag := -2; bag <= len(thresholds)+2; bag++ {
		low, high, e := plainBounds(thresholds, bag)
		checkBounds(t, thresholds, bag, low, high, e)
	}
}

// checkOneBag sees to it that a stake lies within the bounds of its bag and of
// no other one.
func checkOneBag(t *testing.T, thresholds []uint64, stake uint64) {
	t.Helper()
	own, e := Bag(thresholds, stake)
	if e != api.OK {
		t.Fatalf("Bag(%d, %d): error %d", thresholds, stake, e)
	}
	for bag := 0; bag <= len(thresholds); bag++ {
		low, high, e := Bounds(thresholds, bag)
		inside := e == api.OK && low <= stake && stake <= high
		if inside != (bag == own) {
			t.Errorf("%d, stake %d of bag %d: bounds of %d are %d, %d, %d", thresholds, stake, own, bag, low, high, e)
		}
	}
}

func TestExamples(t *testing.T) {
	l := []uint64{10, 20}
	for stake, want := range map[uint64]int{0: 0, 1: 0, 9: 0, 10: 0, 11: 1, 19: 1, 20: 1, 21: 2, most: 2} {
		checkBag(t, l, stake, want, api.OK)
	}
	checkBounds(t, l, 0, 0, 10, api.OK)
	checkBounds(t, l, 1, 11, 20, api.OK)
	checkBounds(t, l, 2, 21, most, api.OK)
	for _, none := range [][]uint64{nil, {}} {
		for _, stake := range []uint64{0, 1, 1 << 63, most} {
			checkBag(t, none, stake, 0, api.OK)
		}
		checkBounds(t, none, 0, 0, most, api.OK)
		checkBounds(t, none, 1, 0, 0, api.ErrNone)
		checkBounds(t, none, -1, 0, 0, api.ErrNone)
	}
}

func TestFormed(t *testing.T) {
	for _, l := range wellFormed() {
		if !Formed(l) {
			t.Errorf("Formed(%d): false", l)
		}
	}
	for _, l := range illFormed() {
		if Formed(l) {
			t.Errorf("Formed(%d): true", l)
		}
	}
}

// Every place of a longest list tells: one equal or lesser neighbour anywhere
// makes it ill formed.
func TestFormedAtEveryPlace(t *testing.T) {
	for place := 1; place < api.MaxBags; place++ {
		for _, less := range []uint64{0, 1} {
			l := ascending(api.MaxBags, 10, 10)
			l[place] = l[place-1] - less
			if Formed(l) {
				t.Errorf("place %d, less by %d: formed", place, less)
			}
		}
	}
}

func TestIllFormedIsErrArg(t *testing.T) {
	bags := []int{math.MinInt, -1, 0, 1, 2, api.MaxBags, api.MaxBags + 1, api.MaxBags + 2, math.MaxInt}
	for _, l := range illFormed() {
		for _, stake := range []uint64{0, 1, 5, 6, most} {
			checkBag(t, l, stake, 0, api.ErrArg)
		}
		// Also for bags that there are not: ErrArg goes ahead of ErrNone.
		for _, bag := range append(bags, len(l), len(l)+1) {
			checkBounds(t, l, bag, 0, 0, api.ErrArg)
		}
	}
}

func TestStakesAtThresholds(t *testing.T) {
	for _, l := range wellFormed() {
		for i, threshold := range l {
			checkBag(t, l, threshold, i, api.OK)
			if threshold < most {
				checkBag(t, l, threshold+1, i+1, api.OK)
			}
			if threshold > 0 && (i == 0 || l[i-1] < threshold-1) {
				checkBag(t, l, threshold-1, i, api.OK)
			}
		}
		checkAgainstPlain(t, l, telling(l))
	}
}

func TestBagsThatAreNot(t *testing.T) {
	for _, l := range wellFormed() {
		for _, bag := range []int{math.MinInt, math.MinInt + 1, -2, -1, len(l) + 1, len(l) + 2, math.MaxInt - 1, math.MaxInt} {
			checkBounds(t, l, bag, 0, 0, api.ErrNone)
		}
	}
}

func TestBagWithoutStakes(t *testing.T) {
	for _, l := range [][]uint64{{most}, {0, most}, {most - 1, most}, ascending(api.MaxBags, most-99, 1)} {
		checkBounds(t, l, len(l), 0, 0, api.ErrNone)
		checkBag(t, l, most, len(l)-1, api.OK)
	}
	checkBounds(t, []uint64{most}, 0, 0, most, api.OK)
	checkBounds(t, []uint64{0, most}, 0, 0, 0, api.OK)
	checkBounds(t, []uint64{0, most}, 1, 1, most, api.OK)
	checkBounds(t, []uint64{most - 1, most}, 1, most, most, api.OK)
	checkBounds(t, []uint64{most - 1}, 1, most, most, api.OK)
	checkBounds(t, []uint64{0}, 0, 0, 0, api.OK)
	checkBounds(t, []uint64{0}, 1, 1, most, api.OK)
}

func TestStakeIsInOneBag(t *testing.T) {
	for _, l := range wellFormed() {
		for _, stake := range telling(l) {
			checkOneBag(t, l, stake)
		}
	}
}

// The bounds of the bags lie end to end, from 0 to the greatest amount.
func TestBoundsLeaveNoGap(t *testing.T) {
	for _, l := range wellFormed() {
		next, full := uint64(0), false
		for bag := 0; bag <= len(l); bag++ {
			low, high, e := Bounds(l, bag)
			if full {
				checkBounds(t, l, bag, 0, 0, api.ErrNone)
				continue
			}
			if e != api.OK || low != next || high < low {
				t.Errorf("Bounds(%d, %d): %d, %d, %d, wanted from %d on", l, bag, low, high, e, next)
			}
			next, full = high+1, high == most
		}
		if !full {
			t.Errorf("%d: no bag for stakes from %d on", l, next)
		}
	}
}

func TestGreaterStakesInNoLesserBags(t *testing.T) {
	for _, l := range wellFormed() {
		last := 0
		for _, stake := range telling(l) {
			bag, e := Bag(l, stake)
			if e != api.OK || bag < last || bag > len(l) {
				t.Errorf("Bag(%d, %d): %d, %d, after bag %d", l, stake, bag, e, last)
			}
			last = bag
		}
	}
}

// randomAmount returns amounts of all sizes, and often those at the edges.
func randomAmount(r *rand.Rand) uint64 {
	switch r.Intn(4) {
	case 0:
		return uint64(r.Intn(200))
	case 1:
		return most - uint64(r.Intn(200))
	default:
		return r.Uint64() >> r.Intn(64)
	}
}

func randomThresholds(r *rand.Rand) []uint64 {
	list := make([]uint64, r.Intn(api.MaxBags+1))
	for i := range list {
		list[i] = randomAmount(r)
	}
	slices.Sort(list)
	return slices.Compact(list)
}

func TestRandomThresholds(t *testing.T) {
	r := rand.New(rand.NewSource(8))
	for range 300 {
		l := randomThresholds(r)
		if !Formed(l) {
			t.Fatalf("Formed(%d): false", l)
		}
		var stakes []uint64
		for range 50 {
			stakes = append(stakes, randomAmount(r))
		}
		checkAgainstPlain(t, l, append(stakes, telling(l)...))
		for _, stake := range stakes[:10] {
			checkOneBag(t, l, stake)
		}
	}
}

// plainFormed compares every pair, not neighbours alone.
func plainFormed(list []uint64) bool {
	for i := range list {
		for j := range i {
			if list[j] >= list[i] {
				return false
			}
		}
	}
	return len(list) <= api.MaxBags
}

func TestRandomForms(t *testing.T) {
	r := rand.New(rand.NewSource(88))
	formed := 0
	for range 20000 {
		list := make([]uint64, r.Intn(6))
		for i := range list {
			list[i] = uint64(r.Intn(12))
		}
		want, wantE := plainFormed(list), api.ErrArg
		if want {
			formed++
			wantE = api.OK
		}
		_, bagE := Bag(list, 3)
		_, _, boundsE := Bounds(list, 0)
		if got := Formed(list); got != want || bagE != wantE || boundsE != wantE {
			t.Errorf("%d: %t, %d, %d, wanted %t", list, got, bagE, boundsE, want)
		}
	}
	if formed < 1000 || formed > 19000 {
		t.Errorf("%d of the lists are formed: too few of one kind", formed)
	}
}

// R2 and R3: the same arguments give the same answers, and neither the list
// nor its spare capacity is written.
func TestArgumentsAreLeftAsTheyAre(t *testing.T) {
	for _, l := range append(wellFormed(), illFormed()...) {
		backing := append(slices.Clone(l), 3, 1, 2)
		before := slices.Clone(backing)
		list := backing[:len(l)]
		answers := func() string {
			bag, bagE := Bag(list, 11)
			low, high, boundsE := Bounds(list, 1)
			return fmt.Sprint(Formed(list), bag, bagE, low, high, boundsE)
		}
		first := answers()
		// Calls with other thresholds in between must leave no trace.
		Bag([]uint64{1, 2, 3}, 2)
		Bounds([]uint64{3, 2}, 0)
		if second := answers(); second != first {
			t.Errorf("%d: %s, then %s", l, first, second)
		}
		if !slices.Equal(backing, before) {
			t.Errorf("%d: list changed to %d", before, backing)
		}
	}
}
