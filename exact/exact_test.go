package exact

import (
	"math/big"
	"math/rand"
	"slices"
	"testing"

	"psephos/limb"
	"psephos/ratio"
)

func toBig(a limb.Nat) *big.Int {
	n := new(big.Int)
	for i := len(a) - 1; i >= 0; i-- {
		n.Lsh(n, 32)
		n.Or(n, big.NewInt(int64(a[i])))
	}
	return n
}

func toRat(a ratio.Ratio) *big.Rat {
	return new(big.Rat).SetFrac(toBig(a.Num), toBig(a.Den))
}

func toNat(n *big.Int) limb.Nat {
	var list limb.Nat
	for n = new(big.Int).Set(n); n.Sign() > 0; n.Rsh(n, 32) {
		list = append(list, uint32(new(big.Int).And(n, big.NewInt(1<<32-1)).Uint64()))
	}
	return list
}

func fromRat(a *big.Rat) ratio.Ratio {
	return ratio.Ratio{Num: toNat(a.Num()), Den: toNat(a.Denom())}
}

func small(num, den uint64) ratio.Ratio {
	return ratio.Ratio{Num: limb.Of(num), Den: limb.Of(den)}
}

// full returns the greatest natural of n limbs, and power the least one of
// n + 1 limbs; nothing divides both.
func full(n int) limb.Nat { return slices.Repeat(limb.Nat{1<<32 - 1}, n) }

func power(n int) limb.Nat { return append(make(limb.Nat, n), 1) }

func wantOrder(t *testing.T, a, b ratio.Ratio, want int) {
	t.Helper()
	if Cmp(a, b) != want || Cmp(b, a) != -want {
		t.Errorf("Cmp(%v, %v): %d, %d, wanted %d", a, b, Cmp(a, b), Cmp(b, a), want)
	}
}

func TestShort(t *testing.T) {
	list := []ratio.Ratio{small(0, 1), small(1, 1<<64-1), small(1, 3), small(1, 2), small(2, 3), small(1, 1), small(3, 2), small(7, 1), small(1<<64-1, 1)}
	for i, a := range list {
		for j, b := range list {
			wantOrder(t, a, b, min(1, max(-1, i-j)))
		}
	}
	wantOrder(t, ratio.Ratio{Num: limb.Nat{}, Den: limb.Of(1)}, small(0, 1), 0)
}

// Fractions of which one product is too long, or both.
func TestLong(t *testing.T) {
	longest := ratio.Ratio{Num: full(400), Den: limb.Of(1)}
	least, other := ratio.Ratio{Num: limb.Of(1), Den: full(400)}, ratio.Ratio{Num: limb.Of(1), Den: power(399)}
	wantOrder(t, longest, longest, 0)
	wantOrder(t, longest, small(1, 2), 1)
	wantOrder(t, longest, least, 1)
	wantOrder(t, least, least, 0)
	wantOrder(t, least, other, -1)
	wantOrder(t, least, small(0, 1), 1)
	wantOrder(t, least, ratio.Ratio{Num: limb.Of(3), Den: power(399)}, -1)
	near, nearer := ratio.Ratio{Num: full(399), Den: full(400)}, ratio.Ratio{Num: power(398), Den: power(399)}
	wantOrder(t, near, nearer, toRat(near).Cmp(toRat(nearer)))
	wantOrder(t, small(1, 1), ratio.Ratio{Num: full(400), Den: power(399)}, -1)
}

// someLong returns a fraction of up to 300 limbs.
func someLong(r *rand.Rand) ratio.Ratio {
	num, den := make([]byte, r.Intn(1200)), make([]byte, 1+r.Intn(1200))
	r.Read(num)
	r.Read(den)
	den[0] |= 1
	return fromRat(new(big.Rat).SetFrac(new(big.Int).SetBytes(num), new(big.Int).SetBytes(den)))
}

// beside returns the fractions with a denominator that lie next to a.
func beside(a ratio.Ratio, den limb.Nat) []ratio.Ratio {
	num := new(big.Int).Mul(toBig(a.Num), toBig(den))
	num.Quo(num, toBig(a.Den))
	above := new(big.Int).Add(num, big.NewInt(1))
	return []ratio.Ratio{fromRat(new(big.Rat).SetFrac(num, toBig(den))), fromRat(new(big.Rat).SetFrac(above, toBig(den)))}
}

func TestMany(t *testing.T) {
	r := rand.New(rand.NewSource(1))
	for range 200 {
		a, b := someLong(r), someLong(r)
		wantOrder(t, a, b, toRat(a).Cmp(toRat(b)))
		wantOrder(t, a, a, 0)
		for _, c := range beside(a, b.Den) {
			if ratio.Formed(c) {
				wantOrder(t, a, c, toRat(a).Cmp(toRat(c)))
			}
		}
	}
}

// What is not well formed is compared somehow, without an end of the program.
func TestIllFormed(t *testing.T) {
	list := []ratio.Ratio{{}, {Num: limb.Of(1)}, small(2, 4), small(1, 2), small(1, 0), small(0, 0),
		{Num: limb.Nat{1, 0}, Den: limb.Of(1)}, {Num: limb.Of(1), Den: limb.Nat{1, 0}}, {Num: limb.Nat{0}, Den: limb.Nat{0}},
		{Num: full(401), Den: full(401)}, {Num: full(400), Den: full(400)}, {Num: power(400), Den: limb.Of(1)}}
	for _, a := range list {
		for _, b := range list {
			Cmp(a, b)
		}
	}
}
