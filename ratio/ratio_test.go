package ratio

import (
	"math/big"
	"math/rand"
	"slices"
	"testing"

	"psephos/api"
	"psephos/limb"
)

const top = 1<<32 - 1

// full returns the greatest natural of n limbs.
func full(n int) limb.Nat {
	a := make(limb.Nat, n)
	for i := range a {
		a[i] = top
	}
	return a
}

// power returns 2^(32n), the least natural of n+1 limbs.
func power(n int) limb.Nat {
	a := make(limb.Nat, n+1)
	a[n] = 1
	return a
}

// nearHalf returns 2^(32n-1) - 1.
func nearHalf(n int) limb.Nat {
	a := full(n)
	a[n-1] = top >> 1
	return a
}

func small(num, den uint64) Ratio {
	return Ratio{limb.Of(num), limb.Of(den)}
}

// edges lists well formed fractions, with numerators and denominators from
// nothing to all limbs: 2^32n and 2^32n - 1 have no divisor in common.
func edges() []Ratio {
	one := limb.Of(1)
	return []Ratio{
		{nil, one}, {limb.Nat{}, one}, small(1, 1), small(1, 2), small(2, 1), small(1, 3), small(3, 2), small(7, 2),
		small(top, 1<<32), small(1<<32, top), small(1<<64-1, 1<<63), small(1<<63, 1<<64-1),
		{full(100), power(100)}, {power(100), full(100)}, {full(199), power(199)}, {power(199), full(199)},
		{full(200), one}, {one, full(200)}, {power(200), one}, {one, power(200)}, {power(199), one}, {one, power(199)},
		{full(200), power(200)}, {power(200), full(200)}, {one, full(201)}, {full(201), one},
		{full(400), one}, {one, full(400)}, {power(399), one}, {one, power(399)},
		{full(400), power(399)}, {power(399), full(400)}, {nearHalf(400), limb.Of(2)}, {limb.Of(2), nearHalf(400)},
		{nearHalf(400), one}, {power(398), full(1)}, {full(399), limb.Of(1 << 32)},
	}
}

// malformed lists fractions that are not well formed.
func malformed() []Ratio {
	one := limb.Of(1)
	return []Ratio{
		{}, {nil, nil}, {one, nil}, {full(400), nil}, {limb.Nat{}, limb.Nat{}},
		{limb.Nat{1, 0}, one}, {one, limb.Nat{1, 0}}, {limb.Nat{0}, one}, {one, limb.Nat{0}}, {limb.Nat{0}, limb.Nat{0}},
		{full(401), one}, {one, full(401)}, {power(400), one}, {one, power(400)}, {full(5000), one},
		small(2, 4), small(4, 2), small(2, 2), small(0, 2), small(0, 1<<40), small(21, 14), small(1<<63, 1<<32),
		{full(400), full(400)}, {full(400), full(200)}, {full(400), limb.Of(3)}, {nil, full(400)}, {power(399), power(1)},
	}
}

func toBig(a limb.Nat) *big.Int {
	r := new(big.Int)
	for i := len(a) - 1; i >= 0; i-- {
		r.Lsh(r, 32)
		r.Or(r, big.NewInt(int64(a[i])))
	}
	return r
}

func fromBig(n *big.Int) limb.Nat {
	var r limb.Nat
	rest := new(big.Int).Set(n)
	mask := big.NewInt(top)
	for rest.Sign() > 0 {
		r = append(r, uint32(new(big.Int).And(rest, mask).Uint64()))
		rest.Rsh(rest, 32)
	}
	return r
}

func times(a, b limb.Nat) *big.Int { return new(big.Int).Mul(toBig(a), toBig(b)) }

func anyLong(list ...*big.Int) bool {
	return slices.ContainsFunc(list, func(n *big.Int) bool { return n.BitLen() > 32*api.MaxLimbs })
}

func equal(a, b Ratio) bool { return slices.Equal(a.Num, b.Num) && slices.Equal(a.Den, b.Den) }

// wantRatio takes num over den in any terms.
func wantRatio(t *testing.T, what string, got Ratio, e api.Errno, num, den *big.Int) {
	t.Helper()
	want := new(big.Rat).SetFrac(num, den)
	if e != api.OK || !equal(got, Ratio{fromBig(want.Num()), fromBig(want.Denom())}) {
		t.Errorf("%s: got %v, %d, want %v", what, got, e, want)
	}
	if !Formed(got) {
		t.Errorf("%s: %v is not well formed", what, got)
	}
}

func wantError(t *testing.T, what string, got Ratio, e, want api.Errno) {
	t.Helper()
	if got.Num != nil || got.Den != nil || e != want {
		t.Errorf("%s: got %v, %d, want no fraction and %d", what, got, e, want)
	}
}

// checkPair holds every function of two well formed fractions against
// math/big.
func checkPair(t *testing.T, a, b Ratio) {
	t.Helper()
	left, right := times(a.Num, b.Den), times(b.Num, a.Den)
	checkOrder(t, a, b, left, right)
	checkJoined(t, a, b, left, right)
	checkScaled(t, a, b, left, right)
}

func checkOrder(t *testing.T, a, b Ratio, left, right *big.Int) {
	t.Helper()
	order := left.Cmp(right)
	if anyLong(left, right) {
		order = 0
	}
	if got := Cmp(a, b); got != order {
		t.Errorf("Cmp(%v, %v): %d, want %d", a, b, got, order)
	}
	least := a
	if order > 0 {
		least = b
	}
	if got, e := Min(a, b); e != api.OK || !equal(got, least) {
		t.Errorf("Min(%v, %v): %v, %d", a, b, got, e)
	}
}

func checkJoined(t *testing.T, a, b Ratio, left, right *big.Int) {
	t.Helper()
	den := times(a.Den, b.Den)
	sum, e := Add(a, b)
	added := new(big.Int).Add(left, right)
	if anyLong(left, right, den, added) {
		wantError(t, "Add", sum, e, api.ErrLong)
	} else {
		wantRatio(t, "Add", sum, e, added, den)
	}
	rest, e := Sub(a, b)
	switch {
	case anyLong(left, right, den):
		wantError(t, "Sub", rest, e, api.ErrLong)
	case left.Cmp(right) < 0:
		wantError(t, "Sub", rest, e, api.ErrRange)
	default:
		wantRatio(t, "Sub", rest, e, new(big.Int).Sub(left, right), den)
	}
}

func checkScaled(t *testing.T, a, b Ratio, left, right *big.Int) {
	t.Helper()
	num, den := times(a.Num, b.Num), times(a.Den, b.Den)
	r, e := Mul(a, b)
	if anyLong(num, den) {
		wantError(t, "Mul", r, e, api.ErrLong)
	} else {
		wantRatio(t, "Mul", r, e, num, den)
	}
	r, e = Div(a, b)
	switch {
	case len(b.Num) == 0:
		wantError(t, "Div", r, e, api.ErrNone)
	case anyLong(left, right):
		wantError(t, "Div", r, e, api.ErrLong)
	default:
		wantRatio(t, "Div", r, e, left, right)
	}
}

// P2.1

func TestOf(t *testing.T) {
	for _, c := range []struct{ num, den, n, d uint64 }{
		{6, 4, 3, 2}, {3, 2, 3, 2}, {4, 6, 2, 3}, {0, 9, 0, 1}, {0, 1, 0, 1}, {5, 5, 1, 1}, {12, 3, 4, 1}, {3, 12, 1, 4},
		{0, 1<<64 - 1, 0, 1}, {1<<64 - 1, 1<<64 - 1, 1, 1}, {1<<64 - 1, 1, 1<<64 - 1, 1}, {1, 1<<64 - 1, 1, 1<<64 - 1},
		{1 << 63, 1 << 40, 1 << 23, 1}, {1<<64 - 1, 3, (1<<64 - 1) / 3, 1}, {1<<64 - 1, 1 << 63, 1<<64 - 1, 1 << 63},
	} {
		if got, e := Of(c.num, c.den); e != api.OK || !equal(got, small(c.n, c.d)) {
			t.Errorf("Of(%d, %d): %v, %d", c.num, c.den, got, e)
		}
		if got, e := Make(limb.Of(c.num), limb.Of(c.den)); e != api.OK || !equal(got, small(c.n, c.d)) {
			t.Errorf("Make(%d, %d): %v, %d", c.num, c.den, got, e)
		}
	}
	for _, num := range []uint64{0, 1, 7, 1<<64 - 1} {
		r, e := Of(num, 0)
		wantError(t, "Of", r, e, api.ErrNone)
	}
}

func TestMake(t *testing.T) {
	naturals := []limb.Nat{nil, {}, {1}, {2}, {6}, {top}, {0, 1}, {0, 6}, {top, top}, {0, 0, 9}, power(199), full(200), nearHalf(400), power(399), full(400)}
	bad := []limb.Nat{{0}, {1, 0}, {0, 0}, full(401), power(400)}
	for _, num := range naturals {
		for _, den := range naturals {
			r, e := Make(num, den)
			if len(den) == 0 {
				wantError(t, "Make", r, e, api.ErrNone)
			} else {
				wantRatio(t, "Make", r, e, toBig(num), toBig(den))
			}
		}
		for _, other := range bad {
			r, e := Make(num, other)
			wantError(t, "Make with a malformed denominator", r, e, api.ErrArg)
			r, e = Make(other, num)
			wantError(t, "Make with a malformed numerator", r, e, api.ErrArg)
			r, e = Make(other, other)
			wantError(t, "Make with both malformed", r, e, api.ErrArg)
		}
	}
}

func TestFormed(t *testing.T) {
	for _, a := range edges() {
		if !Formed(a) {
			t.Errorf("%v is well formed", a)
		}
	}
	for _, a := range malformed() {
		if Formed(a) {
			t.Errorf("%v is not well formed", a)
		}
	}
}

func TestMalformed(t *testing.T) {
	good := append(edges(), malformed()...)
	for _, bad := range malformed() {
		for _, other := range good {
			checkMalformed(t, bad, other)
			checkMalformed(t, other, bad)
		}
		if n, e := Floor(bad); n != nil || e != api.ErrArg {
			t.Errorf("Floor(%v): %v, %d", bad, n, e)
		}
	}
}

func checkMalformed(t *testing.T, a, b Ratio) {
	t.Helper()
	if got := Cmp(a, b); got != 0 {
		t.Errorf("Cmp(%v, %v): %d", a, b, got)
	}
	for i, call := range []func(a, b Ratio) (Ratio, api.Errno){Add, Sub, Mul, Div, Min} {
		if got, e := call(a, b); got.Num != nil || got.Den != nil || e != api.ErrArg {
			t.Errorf("call %d of %v and %v: %v, %d", i, a, b, got, e)
		}
	}
}

// P2.2

func TestPlainPairs(t *testing.T) {
	for _, c := range []struct {
		what      string
		call      func(a, b Ratio) (Ratio, api.Errno)
		a, b, out Ratio
	}{
		{"sum", Add, small(1, 2), small(1, 3), small(5, 6)},
		{"sum in lower terms", Add, small(1, 6), small(1, 3), small(1, 2)},
		{"sum with 0", Add, small(0, 1), small(2, 3), small(2, 3)},
		{"difference", Sub, small(1, 2), small(1, 3), small(1, 6)},
		{"difference of equals", Sub, small(7, 3), small(7, 3), small(0, 1)},
		{"difference with 0", Sub, small(2, 3), small(0, 1), small(2, 3)},
		{"product", Mul, small(2, 3), small(3, 4), small(1, 2)},
		{"product with 0", Mul, small(0, 1), small(3, 4), small(0, 1)},
		{"quotient", Div, small(1, 2), small(1, 3), small(3, 2)},
		{"quotient of 0", Div, small(0, 1), small(5, 3), small(0, 1)},
		{"quotient of equals", Div, small(5, 3), small(5, 3), small(1, 1)},
		{"least, the second", Min, small(1, 2), small(1, 3), small(1, 3)},
		{"least, the first", Min, small(1, 3), small(1, 2), small(1, 3)},
	} {
		if got, e := c.call(c.a, c.b); e != api.OK || !equal(got, c.out) {
			t.Errorf("%s: %v, %d, want %v", c.what, got, e, c.out)
		}
	}
	r, e := Sub(small(1, 3), small(1, 2))
	wantError(t, "Sub", r, e, api.ErrRange)
	r, e = Div(small(1, 3), small(0, 1))
	wantError(t, "Div", r, e, api.ErrNone)
	r, e = Div(small(0, 1), small(0, 1))
	wantError(t, "Div", r, e, api.ErrNone)
}

func TestCmp(t *testing.T) {
	rising := []Ratio{small(0, 1), {limb.Of(1), full(190)}, small(1, 3), small(1, 2), small(2, 3), small(1, 1), small(7, 2), {full(190), limb.Of(1)}}
	for i, a := range rising {
		for j, b := range rising {
			want := 0
			if i < j {
				want = -1
			} else if i > j {
				want = 1
			}
			if got := Cmp(a, b); got != want {
				t.Errorf("Cmp(%v, %v): %d, want %d", a, b, got, want)
			}
		}
	}
}

func TestFloor(t *testing.T) {
	for _, c := range []struct{ num, den, whole uint64 }{
		{7, 2, 3}, {0, 1, 0}, {1, 2, 0}, {1, 1, 1}, {2, 1, 2}, {5, 3, 1}, {1<<64 - 1, 1, 1<<64 - 1}, {1<<64 - 1, 2, 1<<63 - 1}, {1<<64 - 2, 1<<64 - 1, 0},
	} {
		if got, e := Floor(small(c.num, c.den)); e != api.OK || !slices.Equal(got, limb.Of(c.whole)) {
			t.Errorf("Floor(%d/%d): %v, %d", c.num, c.den, got, e)
		}
	}
	for _, a := range edges() {
		want := fromBig(new(big.Int).Quo(toBig(a.Num), toBig(a.Den)))
		if got, e := Floor(a); e != api.OK || !slices.Equal(got, want) {
			t.Errorf("Floor(%v): %v, %d, want %v", a, got, e, want)
		}
	}
}

func TestEdgePairs(t *testing.T) {
	for _, a := range edges() {
		for _, b := range edges() {
			checkPair(t, a, b)
		}
	}
}

func TestRandomPairs(t *testing.T) {
	source := rand.New(rand.NewSource(2))
	for i := range 3000 {
		most := 4
		if i%10 == 0 {
			most = 220
		}
		checkPair(t, randomRatio(source, most), randomRatio(source, most))
	}
}

func randomNat(source *rand.Rand, most int) limb.Nat {
	a := make(limb.Nat, 1+source.Intn(most))
	for i := range a {
		a[i] = source.Uint32() >> source.Intn(32)
	}
	a[len(a)-1] |= 1
	return a
}

func randomRatio(source *rand.Rand, most int) Ratio {
	r := new(big.Rat).SetFrac(toBig(randomNat(source, most)), toBig(randomNat(source, most)))
	return Ratio{fromBig(r.Num()), fromBig(r.Denom())}
}

// TestLength has pairs in which one product alone is just of MaxLimbs limbs,
// or of one more.
func TestLength(t *testing.T) {
	one, two := limb.Of(1), limb.Of(2)
	type calls struct{ add, sub, mul, div api.Errno }
	ok, long := api.OK, api.ErrLong
	for _, c := range []struct {
		what string
		a, b Ratio
		calls
		cmp int
	}{
		{"first crossed, just", Ratio{power(199), one}, Ratio{one, power(200)}, calls{ok, ok, ok, ok}, 1},
		{"first crossed, over", Ratio{power(200), one}, Ratio{one, power(200)}, calls{long, long, ok, long}, 0},
		{"second crossed, just", Ratio{one, power(200)}, Ratio{power(199), one}, calls{ok, api.ErrRange, ok, ok}, -1},
		{"second crossed, over", Ratio{one, power(200)}, Ratio{power(200), one}, calls{long, long, ok, long}, 0},
		{"denominators, just", Ratio{one, power(199)}, Ratio{one, power(200)}, calls{ok, ok, ok, ok}, 1},
		{"denominators, over", Ratio{one, power(200)}, Ratio{one, power(200)}, calls{long, long, long, ok}, 0},
		{"denominators over, a less than b", Ratio{one, full(201)}, Ratio{one, power(200)}, calls{long, long, long, ok}, -1},
		{"numerators, just", Ratio{power(199), one}, Ratio{power(200), one}, calls{ok, api.ErrRange, ok, ok}, -1},
		{"numerators, over", Ratio{power(200), one}, Ratio{power(200), one}, calls{ok, ok, long, ok}, 0},
		{"sum, just", Ratio{nearHalf(400), one}, Ratio{nearHalf(400), one}, calls{ok, ok, long, ok}, 0},
		{"sum, over", Ratio{full(400), one}, Ratio{one, one}, calls{long, ok, ok, ok}, 1},
		{"sum, over before it is reduced", Ratio{nearHalf(400), two}, Ratio{nearHalf(400), two}, calls{long, ok, long, ok}, 0},
		{"0 and all limbs", Ratio{nil, one}, Ratio{full(400), one}, calls{ok, api.ErrRange, ok, ok}, -1},
		{"all limbs below 1, and 0", Ratio{one, full(400)}, Ratio{nil, one}, calls{ok, ok, ok, api.ErrNone}, 1},
		{"product of reciprocals", Ratio{full(300), power(300)}, Ratio{power(300), full(300)}, calls{long, long, long, long}, 0},
		{"quotient of equals", Ratio{full(300), power(300)}, Ratio{full(300), power(300)}, calls{long, long, long, long}, 0},
	} {
		checkPair(t, c.a, c.b)
		_, add := Add(c.a, c.b)
		_, sub := Sub(c.a, c.b)
		_, mul := Mul(c.a, c.b)
		_, div := Div(c.a, c.b)
		if got := (calls{add, sub, mul, div}); got != c.calls {
			t.Errorf("%s: %v, want %v", c.what, got, c.calls)
		}
		if got := Cmp(c.a, c.b); got != c.cmp {
			t.Errorf("%s: Cmp %d, want %d", c.what, got, c.cmp)
		}
	}
}

// TestMinTooLong has the lesser fraction second, but no way to compare.
func TestMinTooLong(t *testing.T) {
	great, least := Ratio{power(200), limb.Of(1)}, Ratio{limb.Of(1), power(200)}
	for _, c := range [][2]Ratio{{great, least}, {least, great}} {
		if got, e := Min(c[0], c[1]); e != api.OK || !equal(got, c[0]) {
			t.Errorf("Min(%v, %v): %v, %d", c[0], c[1], got, e)
		}
	}
}

// R3

const spare = 0xabcdef

// roomy returns a in memory whose spare capacity is filled with a known number.
func roomy(a limb.Nat) limb.Nat {
	r := make(limb.Nat, len(a)+5)
	copy(r, a)
	for i := len(a); i < len(r); i++ {
		r[i] = spare
	}
	return r[:len(a)]
}

func roomyRatio(a Ratio) Ratio { return Ratio{roomy(a.Num), roomy(a.Den)} }

// fill overwrites a and its spare capacity.
func fill(a limb.Nat) {
	a = a[:cap(a)]
	for i := range a {
		a[i] = 77
	}
}

func wantUnchanged(t *testing.T, got, want limb.Nat) {
	t.Helper()
	if !slices.Equal(got, want) {
		t.Errorf("changed to %v from %v", got, want)
	}
	for _, l := range got[len(got):cap(got)] {
		if l != spare {
			t.Errorf("spare capacity behind %v changed", want)
		}
	}
}

func TestMemory(t *testing.T) {
	calls := []func(a, b Ratio) []limb.Nat{
		func(a, b Ratio) []limb.Nat { r, _ := Add(a, b); return []limb.Nat{r.Num, r.Den} },
		func(a, b Ratio) []limb.Nat { r, _ := Sub(a, b); return []limb.Nat{r.Num, r.Den} },
		func(a, b Ratio) []limb.Nat { r, _ := Mul(a, b); return []limb.Nat{r.Num, r.Den} },
		func(a, b Ratio) []limb.Nat { r, _ := Div(a, b); return []limb.Nat{r.Num, r.Den} },
		func(a, b Ratio) []limb.Nat { r, _ := Min(a, b); return []limb.Nat{r.Num, r.Den} },
		func(a, b Ratio) []limb.Nat { r, _ := Make(a.Num, b.Den); return []limb.Nat{r.Num, r.Den} },
		func(a, b Ratio) []limb.Nat { n, _ := Floor(a); return []limb.Nat{n} },
		func(a, b Ratio) []limb.Nat { Formed(a); Cmp(a, b); return nil },
	}
	values := append([]Ratio{small(5, 6), small(2, 4), {limb.Nat{1, 0}, limb.Of(1)}}, edges()...)
	for _, x := range values {
		for _, y := range values {
			for _, call := range calls {
				checkMemory(t, x, y, call)
			}
		}
	}
}

// checkMemory overwrites each result in turn: neither the arguments nor the
// results after it may show that.
func checkMemory(t *testing.T, x, y Ratio, call func(a, b Ratio) []limb.Nat) {
	t.Helper()
	a, b := roomyRatio(x), roomyRatio(y)
	results := call(a, b)
	want := call(x, y)
	wantArguments := func() {
		t.Helper()
		wantUnchanged(t, a.Num, x.Num)
		wantUnchanged(t, a.Den, x.Den)
		wantUnchanged(t, b.Num, y.Num)
		wantUnchanged(t, b.Den, y.Den)
	}
	wantArguments()
	for i, r := range results {
		if !slices.Equal(r, want[i]) {
			t.Errorf("result %d of %v and %v: %v, want %v", i, x, y, r, want[i])
		}
		fill(r)
		wantArguments()
	}
	if again := call(x, y); !slices.EqualFunc(again, want, slices.Equal[limb.Nat]) {
		t.Errorf("results of %v and %v changed: %v, want %v", x, y, again, want)
	}
}

// TestSharedArgument gives one list as numerator and denominator of both.
func TestSharedArgument(t *testing.T) {
	one := roomy(limb.Of(1))
	a := Ratio{one, one}
	checkPair(t, a, a)
	if r, e := Min(a, a); e != api.OK || !equal(r, small(1, 1)) {
		t.Error(r, e)
	} else {
		fill(r.Num)
		wantUnchanged(t, r.Den[:1:1], limb.Of(1))
	}
	wantUnchanged(t, one, limb.Of(1))
}

func BenchmarkAdd(b *testing.B) {
	x, y := Ratio{full(99), power(99)}, Ratio{power(98), full(98)}
	for b.Loop() {
		Add(x, y)
	}
}
