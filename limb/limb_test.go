package limb

import (
	"math/big"
	"math/rand"
	"slices"
	"testing"

	"psephos/api"
)

const top = 1<<32 - 1

// full returns the greatest natural of n limbs.
func full(n int) Nat {
	a := make(Nat, n)
	for i := range a {
		a[i] = top
	}
	return a
}

// power returns 2^(32n).
func power(n int) Nat {
	a := make(Nat, n+1)
	a[n] = 1
	return a
}

// malformed lists naturals that are not well formed.
func malformed() []Nat {
	zeros := make(Nat, api.MaxLimbs+1)
	return []Nat{{0}, {1, 0}, {0, 0}, {5, 0, 0}, full(api.MaxLimbs + 1), power(api.MaxLimbs), zeros, full(5000)}
}

// edges lists well formed naturals at the limits of what a limb, a word and a
// natural hold.
func edges() []Nat {
	return []Nat{
		nil, {}, {1}, {2}, {3}, {7}, {12}, {18}, {1 << 31}, {top - 1}, {top},
		{0, 1}, {1, 1}, {5, 1}, {top, 1}, {0, 1 << 31}, {top, top - 1}, {0, top}, {top, top},
		{0, 0, 1}, {1, 0, 1}, {0, 1, 1}, {top, 0, top}, {0, 0, 1 << 31}, {0, top, top - 1}, {top, top, top},
		{0, 0, 0, 1}, {3, 0, 1 << 31}, {0, top - 1, 1 << 31}, {1, 0, 0, 1 << 29}, {3, 0, 0, 1 << 31},
		full(199), full(200), full(201), power(199), power(200), power(201),
		full(api.MaxLimbs - 1), full(api.MaxLimbs), power(api.MaxLimbs - 1), power(api.MaxLimbs - 2),
	}
}

func toBig(a Nat) *big.Int {
	r := new(big.Int)
	for i := len(a) - 1; i >= 0; i-- {
		r.Lsh(r, 32)
		r.Or(r, big.NewInt(int64(a[i])))
	}
	return r
}

func fromBig(n *big.Int) Nat {
	var r Nat
	rest := new(big.Int).Set(n)
	mask := big.NewInt(top)
	for rest.Sign() > 0 {
		r = append(r, uint32(new(big.Int).And(rest, mask).Uint64()))
		rest.Rsh(rest, 32)
	}
	return r
}

func wantNat(t *testing.T, what string, got Nat, e api.Errno, want *big.Int) {
	t.Helper()
	limbs := fromBig(want)
	switch {
	case len(limbs) > api.MaxLimbs:
		wantError(t, what, got, e, api.ErrLong)
	case e != api.OK || !slices.Equal(got, limbs):
		t.Errorf("%s: got %v, %d, want %v", what, got, e, limbs)
	}
}

func wantError(t *testing.T, what string, got Nat, e, want api.Errno) {
	t.Helper()
	if got != nil || e != want {
		t.Errorf("%s: got %v, %d, want nil and %d", what, got, e, want)
	}
}

// checkPair holds every function of two naturals against math/big.
func checkPair(t *testing.T, a, b Nat) {
	t.Helper()
	x, y := toBig(a), toBig(b)
	if got := Cmp(a, b); got != x.Cmp(y) {
		t.Errorf("Cmp(%v, %v): %d", a, b, got)
	}
	r, e := Add(a, b)
	wantNat(t, "Add", r, e, new(big.Int).Add(x, y))
	r, e = Mul(a, b)
	wantNat(t, "Mul", r, e, new(big.Int).Mul(x, y))
	r, e = Gcd(a, b)
	wantNat(t, "Gcd", r, e, new(big.Int).GCD(nil, nil, x, y))
	r, e = Sub(a, b)
	if x.Cmp(y) < 0 {
		wantError(t, "Sub", r, e, api.ErrRange)
	} else {
		wantNat(t, "Sub", r, e, new(big.Int).Sub(x, y))
	}
	q, r, e := DivMod(a, b)
	if y.Sign() == 0 {
		wantError(t, "DivMod quotient", q, e, api.ErrNone)
		wantError(t, "DivMod remainder", r, e, api.ErrNone)
	} else {
		quotient, rest := new(big.Int).QuoRem(x, y, new(big.Int))
		wantNat(t, "DivMod quotient", q, e, quotient)
		wantNat(t, "DivMod remainder", r, e, rest)
	}
}

// randomNat favours limbs of 0 and of all ones, where carries and guesses of
// quotients go wrong.
func randomNat(source *rand.Rand, most int) Nat {
	a := make(Nat, source.Intn(most+1))
	for i := range a {
		switch source.Intn(4) {
		case 0:
			a[i] = 0
		case 1:
			a[i] = top - uint32(source.Intn(2))
		default:
			a[i] = source.Uint32()
		}
	}
	if len(a) > 0 && a[len(a)-1] == 0 {
		a[len(a)-1] = 1 + uint32(source.Intn(3))
	}
	return a
}

// P1.1

func TestOfAndLow(t *testing.T) {
	for _, c := range []struct {
		n uint64
		a Nat
	}{
		{0, nil}, {1, Nat{1}}, {top, Nat{top}}, {1 << 32, Nat{0, 1}}, {1<<32 + 5, Nat{5, 1}},
		{1 << 63, Nat{0, 1 << 31}}, {1<<64 - 1, Nat{top, top}},
	} {
		if got := Of(c.n); !slices.Equal(got, c.a) || !Formed(got) {
			t.Errorf("Of(%d): %v", c.n, got)
		}
		if n, ok := Low(c.a); n != c.n || !ok {
			t.Errorf("Low(%v): %d, %v", c.a, n, ok)
		}
	}
	if n, ok := Low(Nat{}); n != 0 || !ok {
		t.Errorf("Low of an empty list: %d, %v", n, ok)
	}
	for _, a := range append(malformed(), Nat{0, 0, 1}, Nat{7, 7, 7}, full(api.MaxLimbs)) {
		if n, ok := Low(a); n != 0 || ok {
			t.Errorf("Low(%v): %d, %v", a, n, ok)
		}
	}
}

func TestFormed(t *testing.T) {
	for _, a := range edges() {
		if !Formed(a) {
			t.Errorf("Formed(%v): false", a)
		}
	}
	for _, a := range malformed() {
		if Formed(a) {
			t.Errorf("Formed(%v): true", a)
		}
	}
}

func TestCmp(t *testing.T) {
	for _, c := range []struct {
		a, b Nat
		want int
	}{
		{nil, Nat{}, 0}, {nil, Nat{1}, -1}, {Nat{1}, nil, 1}, {Nat{5}, Nat{5}, 0}, {Nat{0, 1}, Nat{top}, 1},
		{Nat{9, 1}, Nat{1, 2}, -1}, {Nat{2, 1}, Nat{1, 1}, 1}, {full(400), full(400), 0}, {full(399), full(400), -1},
	} {
		if got := Cmp(c.a, c.b); got != c.want {
			t.Errorf("Cmp(%v, %v): %d", c.a, c.b, got)
		}
	}
}

func TestMalformed(t *testing.T) {
	for _, bad := range malformed() {
		for _, other := range append(edges(), bad) {
			checkMalformed(t, bad, other)
			checkMalformed(t, other, bad)
		}
	}
}

// checkMalformed also sees to the order of errors: ErrArg comes ahead of
// ErrRange, ErrLong and ErrNone.
func checkMalformed(t *testing.T, a, b Nat) {
	t.Helper()
	if got := Cmp(a, b); got != 0 {
		t.Errorf("Cmp(%v, %v): %d", a, b, got)
	}
	for _, c := range []struct {
		name string
		call func(a, b Nat) (Nat, api.Errno)
	}{{"Add", Add}, {"Sub", Sub}, {"Mul", Mul}, {"Gcd", Gcd}} {
		r, e := c.call(a, b)
		wantError(t, c.name, r, e, api.ErrArg)
	}
	q, r, e := DivMod(a, b)
	wantError(t, "DivMod quotient", q, e, api.ErrArg)
	wantError(t, "DivMod remainder", r, e, api.ErrArg)
}

// P1.2

func TestPlainPairs(t *testing.T) {
	if r, e := Add(Nat{top}, Nat{1}); e != api.OK || !slices.Equal(r, Nat{0, 1}) {
		t.Error(r, e)
	}
	if r, e := Sub(Nat{0, 1}, Nat{1}); e != api.OK || !slices.Equal(r, Nat{top}) {
		t.Error(r, e)
	}
	if r, e := Sub(Nat{3, 4}, Nat{3, 4}); e != api.OK || len(r) != 0 {
		t.Error(r, e)
	}
	if r, e := Mul(Nat{0, 1}, Nat{0, 1}); e != api.OK || !slices.Equal(r, Nat{0, 0, 1}) {
		t.Error(r, e)
	}
	if q, r, e := DivMod(Nat{7}, Nat{2}); e != api.OK || !slices.Equal(q, Nat{3}) || !slices.Equal(r, Nat{1}) {
		t.Error(q, r, e)
	}
	if r, e := Gcd(Nat{12}, Nat{18}); e != api.OK || !slices.Equal(r, Nat{6}) {
		t.Error(r, e)
	}
}

func TestEdgePairs(t *testing.T) {
	for _, a := range edges() {
		for _, b := range edges() {
			checkPair(t, a, b)
		}
	}
}

func TestRandomPairs(t *testing.T) {
	source := rand.New(rand.NewSource(1))
	for range 20000 {
		checkPair(t, randomNat(source, 8), randomNat(source, 8))
	}
	for range 100 {
		checkPair(t, randomNat(source, api.MaxLimbs), randomNat(source, api.MaxLimbs))
	}
}

func TestCommonFactors(t *testing.T) {
	source := rand.New(rand.NewSource(2))
	for range 2000 {
		factor := randomNat(source, 6)
		a, _ := Mul(randomNat(source, 6), factor)
		b, _ := Mul(randomNat(source, 6), factor)
		checkPair(t, a, b)
	}
}

// The steps of Euclid's algorithm are gone through backwards, from quotients
// of chosen sizes: all 1 (Fibonacci numbers, the most steps), short and long.
func TestChosenSteps(t *testing.T) {
	source := rand.New(rand.NewSource(5))
	for round := range 60 {
		a, b := randomNat(source, 4), Nat(nil)
		for len(a) < 1+source.Intn(api.MaxLimbs-10) {
			quotient := Nat{1}
			if round > 0 && source.Intn(round) > 0 {
				quotient = Of(1 + source.Uint64()>>source.Intn(64))
			}
			multiple, _ := Mul(a, quotient)
			next, _ := Add(multiple, b)
			if len(next) == 0 {
				break
			}
			a, b = next, a
		}
		checkPair(t, a, b)
		checkPair(t, b, a)
	}
	fibonacci, before := Nat{1}, Nat{1}
	for len(fibonacci) < api.MaxLimbs {
		next, _ := Add(fibonacci, before)
		fibonacci, before = next, fibonacci
	}
	checkPair(t, fibonacci, before)
}

// The first guess at a limb of the quotient is too great in few divisions, so
// quotients and divisors are chosen near the limits and multiplied back.
func TestQuotientsNearLimits(t *testing.T) {
	source := rand.New(rand.NewSource(3))
	for range 20000 {
		divisor, quotient := randomNat(source, 5), randomNat(source, 5)
		if len(divisor) == 0 {
			continue
		}
		exact, _ := Mul(divisor, quotient)
		checkPair(t, exact, divisor)
		more, _ := Add(exact, Nat{1})
		checkPair(t, more, divisor)
		if len(exact) > 0 {
			less, _ := Sub(exact, Nat{1})
			checkPair(t, less, divisor)
		}
	}
}

func TestLength(t *testing.T) {
	most := api.MaxLimbs
	for _, c := range []struct {
		name string
		call func(a, b Nat) (Nat, api.Errno)
		a, b Nat
		want api.Errno
	}{
		{"Add", Add, full(most), nil, api.OK},
		{"Add", Add, full(most), Nat{1}, api.ErrLong},
		{"Add", Add, Nat{1}, full(most), api.ErrLong},
		{"Add", Add, full(most), full(most), api.ErrLong},
		{"Add", Add, full(most - 1), full(most - 1), api.OK},
		{"Mul", Mul, full(most), nil, api.OK},
		{"Mul", Mul, full(most), Nat{1}, api.OK},
		{"Mul", Mul, full(most), Nat{2}, api.ErrLong},
		{"Mul", Mul, full(most / 2), full(most / 2), api.OK},
		{"Mul", Mul, full(most/2 + 1), full(most / 2), api.ErrLong},
		{"Mul", Mul, power(most / 2), power(most/2 - 1), api.OK},
		{"Mul", Mul, power(most / 2), power(most / 2), api.ErrLong},
		{"Mul", Mul, full(most), full(most), api.ErrLong},
	} {
		if r, e := c.call(c.a, c.b); e != c.want || !Formed(r) || (e != api.OK && r != nil) {
			t.Errorf("%s of %d and %d limbs: %d limbs, %d", c.name, len(c.a), len(c.b), len(r), e)
		}
	}
}

func TestZero(t *testing.T) {
	for _, zero := range []Nat{nil, {}} {
		if r, e := Gcd(zero, zero); e != api.OK || len(r) != 0 {
			t.Error("Gcd(0, 0):", r, e)
		}
		if r, e := Gcd(full(9), zero); e != api.OK || !slices.Equal(r, full(9)) {
			t.Error("Gcd(a, 0):", r, e)
		}
		if r, e := Gcd(zero, full(9)); e != api.OK || !slices.Equal(r, full(9)) {
			t.Error("Gcd(0, b):", r, e)
		}
		if q, r, e := DivMod(zero, Nat{3}); e != api.OK || len(q)+len(r) != 0 {
			t.Error("DivMod(0, 3):", q, r, e)
		}
		if q, r, e := DivMod(zero, zero); e != api.ErrNone || q != nil || r != nil {
			t.Error("DivMod(0, 0):", q, r, e)
		}
	}
}

// R3

const spare = 0xabcdef

// roomy returns a in memory whose spare capacity is filled with a known number.
func roomy(a Nat) Nat {
	r := make(Nat, len(a)+5)
	copy(r, a)
	for i := len(a); i < len(r); i++ {
		r[i] = spare
	}
	return r[:len(a)]
}

// fill overwrites a and its spare capacity.
func fill(a Nat, n uint32) {
	a = a[:cap(a)]
	for i := range a {
		a[i] = n
	}
}

func wantUnchanged(t *testing.T, got, want Nat) {
	t.Helper()
	if !slices.Equal(got, want) {
		t.Errorf("changed to %v from %v", got, want)
	}
	for _, limb := range got[len(got):cap(got)] {
		if limb != spare {
			t.Errorf("spare capacity behind %v changed", want)
		}
	}
}

func TestMemory(t *testing.T) {
	calls := []func(a, b Nat) []Nat{
		func(a, b Nat) []Nat { r, _ := Add(a, b); return []Nat{r} },
		func(a, b Nat) []Nat { r, _ := Sub(a, b); return []Nat{r} },
		func(a, b Nat) []Nat { r, _ := Mul(a, b); return []Nat{r} },
		func(a, b Nat) []Nat { r, _ := Gcd(a, b); return []Nat{r} },
		func(a, b Nat) []Nat { q, r, _ := DivMod(a, b); return []Nat{q, r} },
		func(a, b Nat) []Nat { Low(a); Formed(a); Cmp(a, b); return nil },
	}
	values := []Nat{nil, {1}, {6}, {top}, {0, 1}, {7, 9}, {top, top, top}, {0, 0, 4}, {9, 9, 9, 9, 9}, {1, 0}, full(400)}
	for _, x := range values {
		for _, y := range values {
			for _, call := range calls {
				checkMemory(t, x, y, call)
			}
		}
	}
}

// checkMemory overwrites each result in turn: neither the arguments nor the
// results after it may show that.
func checkMemory(t *testing.T, x, y Nat, call func(a, b Nat) []Nat) {
	t.Helper()
	a, b := roomy(x), roomy(y)
	results := call(a, b)
	wantUnchanged(t, a, x)
	wantUnchanged(t, b, y)
	want := call(x, y)
	for i, r := range results {
		if !slices.Equal(r, want[i]) {
			t.Errorf("result %d of %v and %v: %v, want %v", i, x, y, r, want[i])
		}
		fill(r, 77)
		wantUnchanged(t, a, x)
		wantUnchanged(t, b, y)
	}
}

func TestSameArgument(t *testing.T) {
	for _, a := range edges() {
		checkPair(t, a, a)
	}
}

func BenchmarkGcd(b *testing.B) {
	source := rand.New(rand.NewSource(4))
	x, y := make(Nat, api.MaxLimbs), make(Nat, api.MaxLimbs)
	for i := range x {
		x[i], y[i] = source.Uint32()|1, source.Uint32()|1
	}
	for b.Loop() {
		Gcd(x, y)
	}
}
