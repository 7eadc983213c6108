package money

import (
	"math/big"
	"math/rand"
	"slices"
	"testing"

	"psephos/api"
)

const most = 1<<64 - 1

func natural(n uint64) *big.Int { return new(big.Int).SetUint64(n) }

// amount returns n as a call answers it: ErrRange if it is 2^64 or more.
func amount(n *big.Int) (uint64, api.Errno) {
	if !n.IsUint64() {
		return 0, api.ErrRange
	}
	return n.Uint64(), api.OK
}

func plainSum(list []uint64) *big.Int {
	sum := new(big.Int)
	for _, n := range list {
		sum.Add(sum, natural(n))
	}
	return sum
}

func plainPart(a, num, den uint64) (uint64, api.Errno) {
	if den == 0 {
		return 0, api.ErrNone
	}
	product := new(big.Int).Mul(natural(a), natural(num))
	return amount(product.Quo(product, natural(den)))
}

func plainSplit(a uint64, shares []uint64) ([]uint64, uint64, api.Errno) {
	sum := plainSum(shares)
	if !sum.IsUint64() {
		return nil, 0, api.ErrRange
	}
	if sum.Sign() == 0 {
		return nil, 0, api.ErrNone
	}
	var parts []uint64
	left := natural(a)
	for _, share := range shares {
		part := new(big.Int).Mul(natural(a), natural(share))
		part.Quo(part, sum)
		left.Sub(left, part)
		parts = append(parts, part.Uint64())
	}
	return parts, left.Uint64(), api.OK
}

func checkAdd(t *testing.T, a, b uint64) {
	t.Helper()
	want, wantE := amount(plainSum([]uint64{a, b}))
	if got, e := Add(a, b); got != want || e != wantE {
		t.Errorf("Add(%d, %d): %d, %d, wanted %d, %d", a, b, got, e, want, wantE)
	}
}

func checkSub(t *testing.T, a, b uint64) {
	t.Helper()
	want, wantE := uint64(0), api.ErrFunds
	if d := new(big.Int).Sub(natural(a), natural(b)); d.Sign() >= 0 {
		want, wantE = d.Uint64(), api.OK
	}
	if got, e := Sub(a, b); got != want || e != wantE {
		t.Errorf("Sub(%d, %d): %d, %d, wanted %d, %d", a, b, got, e, want, wantE)
	}
}

func checkSum(t *testing.T, list []uint64) {
	t.Helper()
	want, wantE := amount(plainSum(list))
	if got, e := Sum(list); got != want || e != wantE {
		t.Errorf("Sum(%d): %d, %d, wanted %d, %d", list, got, e, want, wantE)
	}
}

func checkPart(t *testing.T, a, num, den uint64) {
	t.Helper()
	want, wantE := plainPart(a, num, den)
	if got, e := Part(a, num, den); got != want || e != wantE {
		t.Errorf("Part(%d, %d, %d): %d, %d, wanted %d, %d", a, num, den, got, e, want, wantE)
	}
}

func checkSplit(t *testing.T, a uint64, shares []uint64) {
	t.Helper()
	want, wantLeft, wantE := plainSplit(a, shares)
	got, left, e := Split(a, shares)
	if !slices.Equal(got, want) || left != wantLeft || e != wantE {
		t.Errorf("Split(%d, %d): %d, %d, %d, wanted %d, %d, %d", a, shares, got, left, e, want, wantLeft, wantE)
	}
	if whole := plainSum(append(slices.Clone(got), left)); e == api.OK && whole.Cmp(natural(a)) != 0 {
		t.Errorf("Split(%d, %d): %d and %d are %d together", a, shares, got, left, whole)
	}
}

func checkSquare(t *testing.T, a uint64) {
	t.Helper()
	high, low := Square(a)
	got := new(big.Int).Lsh(natural(high), 64)
	got.Add(got, natural(low))
	if want := new(big.Int).Mul(natural(a), natural(a)); got.Cmp(want) != 0 {
		t.Errorf("Square(%d): %d, %d, wanted %d in all", a, high, low, want)
	}
}

// edges are the amounts at which words of 32 and 64 bits, and signs, turn.
func edges() []uint64 {
	return []uint64{
		0, 1, 2, 3, 7, 10, 999999999, 1000000000, 1000000001,
		1<<31 - 1, 1 << 31, 1<<32 - 1, 1 << 32, 1<<32 + 1,
		1<<63 - 1, 1 << 63, 1<<63 + 1, most - 2, most - 1, most,
	}
}

// someAmount returns an amount of any width, often one near an edge.
func someAmount(r *rand.Rand) uint64 {
	if r.Intn(4) == 0 {
		list := edges()
		return list[r.Intn(len(list))]
	}
	return r.Uint64() >> r.Intn(64)
}

// someList returns a list of amounts whose sum is at times just below or
// just above 2^64.
func someList(r *rand.Rand) []uint64 {
	list := make([]uint64, r.Intn(9))
	for i := range list {
		switch r.Intn(5) {
		case 0:
			list[i] = 0
		case 1:
			list[i] = someAmount(r)
		default:
			list[i] = someAmount(r) >> 4
		}
	}
	if sum := plainSum(list); sum.IsUint64() && r.Intn(3) == 0 {
		list = append(list, most-sum.Uint64()+uint64(r.Intn(3))-1)
	}
	return list
}

// P6.1: the sum of two amounts.
func TestAdd(t *testing.T) {
	for _, c := range []struct {
		a, b, want uint64
		e          api.Errno
	}{
		{0, 0, 0, api.OK},
		{2, 3, 5, api.OK},
		{most, 0, most, api.OK},
		{0, most, most, api.OK},
		{most - 1, 1, most, api.OK},
		{1 << 63, 1<<63 - 1, most, api.OK},
		{most, 1, 0, api.ErrRange},
		{1, most, 0, api.ErrRange},
		{1 << 63, 1 << 63, 0, api.ErrRange},
		{most, 2, 0, api.ErrRange},
		{most, most, 0, api.ErrRange},
	} {
		if got, e := Add(c.a, c.b); got != c.want || e != c.e {
			t.Errorf("Add(%d, %d): %d, %d, wanted %d, %d", c.a, c.b, got, e, c.want, c.e)
		}
	}
}

// P6.1: the difference.
func TestSub(t *testing.T) {
	for _, c := range []struct {
		a, b, want uint64
		e          api.Errno
	}{
		{0, 0, 0, api.OK},
		{5, 3, 2, api.OK},
		{7, 7, 0, api.OK},
		{7, 0, 7, api.OK},
		{most, 0, most, api.OK},
		{most, most, 0, api.OK},
		{most, most - 1, 1, api.OK},
		{1 << 63, 1<<63 - 1, 1, api.OK},
		{0, 1, 0, api.ErrFunds},
		{1, 2, 0, api.ErrFunds},
		{0, most, 0, api.ErrFunds},
		{most - 1, most, 0, api.ErrFunds},
		{1<<63 - 1, 1 << 63, 0, api.ErrFunds},
	} {
		if got, e := Sub(c.a, c.b); got != c.want || e != c.e {
			t.Errorf("Sub(%d, %d): %d, %d, wanted %d, %d", c.a, c.b, got, e, c.want, c.e)
		}
	}
}

// P6.1: the sum of a list.
func TestSum(t *testing.T) {
	for _, c := range []struct {
		list []uint64
		want uint64
		e    api.Errno
	}{
		{nil, 0, api.OK},
		{[]uint64{}, 0, api.OK},
		{[]uint64{0}, 0, api.OK},
		{[]uint64{4}, 4, api.OK},
		{[]uint64{most}, most, api.OK},
		{[]uint64{1, 2, 3}, 6, api.OK},
		{[]uint64{0, most, 0}, most, api.OK},
		{[]uint64{1 << 62, 1 << 62, 1 << 62, 1<<62 - 1}, most, api.OK},
		{[]uint64{most - 3, 1, 1, 1}, most, api.OK},
		{[]uint64{most, 1}, 0, api.ErrRange},
		{[]uint64{1, most}, 0, api.ErrRange},
		{[]uint64{most, 1, 0}, 0, api.ErrRange},
		{[]uint64{1 << 62, 1 << 62, 1 << 62, 1 << 62}, 0, api.ErrRange},
		// What ran over is small again, and must stay refused.
		{[]uint64{most, 1, 5}, 0, api.ErrRange},
		{[]uint64{most, most, 2}, 0, api.ErrRange},
		{[]uint64{most, most, most, most}, 0, api.ErrRange},
		{[]uint64{1 << 63, 1 << 63, 1 << 63, 1 << 63}, 0, api.ErrRange},
		{[]uint64{1 << 63, 1 << 63, 1 << 63, 1 << 63, 1}, 0, api.ErrRange},
	} {
		if got, e := Sum(c.list); got != c.want || e != c.e {
			t.Errorf("Sum(%d): %d, %d, wanted %d, %d", c.list, got, e, c.want, c.e)
		}
	}
}

// P6.1: sums of long lists, to the last amount that fits and one beyond.
func TestSumOfMany(t *testing.T) {
	const count = 1 << 16
	list := make([]uint64, count)
	for i := range list {
		list[i] = 1 << 48
	}
	if got, e := Sum(list); got != 0 || e != api.ErrRange {
		t.Errorf("2^64: %d, %d", got, e)
	}
	list[count-1]--
	if got, e := Sum(list); got != most || e != api.OK {
		t.Errorf("2^64 - 1: %d, %d", got, e)
	}
	for i := range list {
		list[i] = most
	}
	if got, e := Sum(list); got != 0 || e != api.ErrRange {
		t.Errorf("all greatest: %d, %d", got, e)
	}
}

// P6.1: parts.
func TestPart(t *testing.T) {
	for _, c := range []struct {
		a, num, den, want uint64
		e                 api.Errno
	}{
		{10, 1, 3, 3, api.OK},
		{11, 1, 3, 3, api.OK},
		{12, 1, 3, 4, api.OK},
		{10, 2, 3, 6, api.OK},
		{5, 3, 2, 7, api.OK},
		{7, 1000000000, 1000000000, 7, api.OK},
		{most, 500000000, 1000000000, most / 2, api.OK},
		{most, 999999999, 1000000000, 18446744055262807541, api.OK},
		// Products of 0.
		{0, 0, 1, 0, api.OK},
		{0, most, 1, 0, api.OK},
		{most, 0, 1, 0, api.OK},
		{0, most, most, 0, api.OK},
		{most, 0, most, 0, api.OK},
		// A denominator of 0, ahead of a quotient too great.
		{0, 0, 0, 0, api.ErrNone},
		{1, 1, 0, 0, api.ErrNone},
		{most, most, 0, 0, api.ErrNone},
		// A denominator of 1.
		{most, 1, 1, most, api.OK},
		{1 << 32, 1<<32 - 1, 1, 1<<64 - 1<<32, api.OK},
		{1 << 32, 1 << 32, 1, 0, api.ErrRange},
		{most, 2, 1, 0, api.ErrRange},
		{most, most, 1, 0, api.ErrRange},
		// A denominator of 2^64 - 1.
		{most, most, most, most, api.OK},
		{most, 1, most, 1, api.OK},
		{most - 1, 1, most, 0, api.OK},
		{most, most - 1, most, most - 1, api.OK},
		{most - 1, most - 1, most, most - 2, api.OK},
		{1, 1, most, 0, api.OK},
		// Quotients of 2^64 - 1, of 2^64 and greater, of greater products.
		{most, 2, 2, most, api.OK},
		{most, 1000000000, 1000000000, most, api.OK},
		{1<<32 - 1, 1<<32 + 1, 1, most, api.OK},
		{1 << 63, 4, 2, 0, api.ErrRange},
		{1 << 63, 3, 2, 3 << 62, api.OK},
		{1 << 63, 5, 2, 0, api.ErrRange},
		{most, 3, 2, 0, api.ErrRange},
		{most, most, most - 1, 0, api.ErrRange},
		{most, most - 1, most - 1, most, api.OK},
		{1 << 63, most, 1 << 62, 0, api.ErrRange},
		{1 << 63, most, 1 << 63, most, api.OK},
	} {
		if got, e := Part(c.a, c.num, c.den); got != c.want || e != c.e {
			t.Errorf("Part(%d, %d, %d): %d, %d, wanted %d, %d", c.a, c.num, c.den, got, e, c.want, c.e)
		}
	}
}

// P6.2: splits.
func TestSplit(t *testing.T) {
	for _, c := range []struct {
		a      uint64
		shares []uint64
		want   []uint64
		left   uint64
		e      api.Errno
	}{
		{10, []uint64{1, 1, 1}, []uint64{3, 3, 3}, 1, api.OK},
		{10, []uint64{1, 2, 3}, []uint64{1, 3, 5}, 1, api.OK},
		{10, []uint64{3, 2, 1}, []uint64{5, 3, 1}, 1, api.OK},
		{12, []uint64{1, 2, 3}, []uint64{2, 4, 6}, 0, api.OK},
		{2, []uint64{1, 1, 1}, []uint64{0, 0, 0}, 2, api.OK},
		{10, []uint64{0, 1, 0, 2, 0}, []uint64{0, 3, 0, 6, 0}, 1, api.OK},
		// A single share has all.
		{10, []uint64{7}, []uint64{10}, 0, api.OK},
		{most, []uint64{1}, []uint64{most}, 0, api.OK},
		{most, []uint64{most}, []uint64{most}, 0, api.OK},
		{10, []uint64{0, 7, 0}, []uint64{0, 10, 0}, 0, api.OK},
		// Splits of 0.
		{0, []uint64{1}, []uint64{0}, 0, api.OK},
		{0, []uint64{1, most - 1}, []uint64{0, 0}, 0, api.OK},
		// Splits of 2^64 - 1.
		{most, []uint64{1, 1}, []uint64{1<<63 - 1, 1<<63 - 1}, 1, api.OK},
		{most, []uint64{1, 1, 1}, []uint64{most / 3, most / 3, most / 3}, 0, api.OK},
		{most, []uint64{1 << 63, 1<<63 - 1}, []uint64{1 << 63, 1<<63 - 1}, 0, api.OK},
		{most - 1, []uint64{1 << 63, 1<<63 - 1}, []uint64{1<<63 - 1, 1<<63 - 2}, 1, api.OK},
		{1, []uint64{most - 1, 1}, []uint64{0, 0}, 1, api.OK},
		// Shares of 0 in all.
		{10, nil, nil, 0, api.ErrNone},
		{10, []uint64{}, nil, 0, api.ErrNone},
		{10, []uint64{0}, nil, 0, api.ErrNone},
		{most, []uint64{0, 0, 0}, nil, 0, api.ErrNone},
		{0, nil, nil, 0, api.ErrNone},
		// Shares of 2^64 and more in all.
		{10, []uint64{most, 1}, nil, 0, api.ErrRange},
		{0, []uint64{most, 1}, nil, 0, api.ErrRange},
		{10, []uint64{1 << 63, 1 << 63}, nil, 0, api.ErrRange},
		{10, []uint64{most, 1, 4}, nil, 0, api.ErrRange},
		{10, []uint64{most, most, most}, nil, 0, api.ErrRange},
	} {
		got, left, e := Split(c.a, c.shares)
		if !slices.Equal(got, c.want) || left != c.left || e != c.e {
			t.Errorf("Split(%d, %d): %d, %d, %d, wanted %d, %d, %d", c.a, c.shares, got, left, e, c.want, c.left, c.e)
		}
	}
}

// P6.2: squares.
func TestSquare(t *testing.T) {
	for _, c := range []struct{ a, high, low uint64 }{
		{0, 0, 0},
		{1, 0, 1},
		{2, 0, 4},
		{1000000000, 0, 1000000000000000000},
		{1<<32 - 1, 0, 1<<64 - 1<<33 + 1},
		{1 << 32, 1, 0},
		{1<<32 + 1, 1, 1<<33 + 1},
		{1 << 63, 1 << 62, 0},
		{most, most - 1, 1},
	} {
		if high, low := Square(c.a); high != c.high || low != c.low {
			t.Errorf("Square(%d): %d, %d, wanted %d, %d", c.a, high, low, c.high, c.low)
		}
	}
}

// P6.1, P6.2: all edges with each other, against plain reckoning.
func TestEdges(t *testing.T) {
	for _, a := range edges() {
		checkSum(t, []uint64{a})
		checkSquare(t, a)
		for _, b := range edges() {
			checkAdd(t, a, b)
			checkSub(t, a, b)
			checkSum(t, []uint64{a, b})
			checkSplit(t, a, []uint64{b})
			for _, c := range edges() {
				checkSum(t, []uint64{a, b, c})
				checkPart(t, a, b, c)
				checkSplit(t, a, []uint64{b, c})
			}
		}
	}
}

// P6.1, P6.2: all small numbers, against plain reckoning.
func TestSmall(t *testing.T) {
	for a := range uint64(13) {
		for b := range uint64(13) {
			checkAdd(t, a, b)
			checkSub(t, a, b)
			for c := range uint64(13) {
				checkPart(t, a, b, c)
				checkSplit(t, a, []uint64{b, c})
				checkSplit(t, a, []uint64{b, c, 1})
			}
		}
	}
}

// P6.1, P6.2: many amounts of all widths, against plain reckoning.
func TestMany(t *testing.T) {
	r := rand.New(rand.NewSource(6))
	for range 100000 {
		a, b, c := someAmount(r), someAmount(r), someAmount(r)
		checkAdd(t, a, b)
		checkAdd(t, a, most-a)
		checkAdd(t, a, -a)
		checkSub(t, a, b)
		checkSub(t, a, a)
		checkSub(t, a, a+1)
		checkPart(t, a, b, c)
		checkPart(t, a, b, max(a, b))
		checkSquare(t, a)
		list := someList(r)
		checkSum(t, list)
		checkSplit(t, a, list)
	}
}

// P6.1: parts around the least denominator whose quotient fits.
func TestPartAtTheBound(t *testing.T) {
	r := rand.New(rand.NewSource(7))
	fits, over := 0, 0
	for range 50000 {
		a, num := someAmount(r), someAmount(r)
		product := new(big.Int).Mul(natural(a), natural(num))
		high := product.Rsh(product, 64).Uint64()
		for _, den := range []uint64{high - 1, high, high + 1, high + 2} {
			checkPart(t, a, num, den)
		}
		if _, e := Part(a, num, high+1); e == api.OK {
			fits++
		}
		if _, e := Part(a, num, high); e == api.ErrRange {
			over++
		}
	}
	if fits != 50000 || over == 0 {
		t.Errorf("%d fit, %d are too great", fits, over)
	}
}

// handed returns a list with spare capacity, all of it filled.
func handed(list ...uint64) []uint64 {
	whole := append(slices.Clone(list), 91, 92, 93)
	return whole[:len(list)]
}

// R3: what is handed in is left as it is, spare capacity included.
func TestArgumentsStay(t *testing.T) {
	for _, list := range [][]uint64{
		handed(), handed(1, 2, 3), handed(0, 0), handed(most, 1), handed(0, 5, most-5),
	} {
		before := slices.Clone(list[:cap(list)])
		Sum(list)
		Split(10, list)
		if after := list[:cap(list)]; !slices.Equal(after, before) {
			t.Errorf("%d became %d", before, after)
		}
	}
}

// R3: the parts are new memory, each time.
func TestPartsAreNew(t *testing.T) {
	shares := handed(1, 2, 3)
	first, _, _ := Split(12, shares)
	second, _, _ := Split(12, shares)
	for i := range first[:cap(first)] {
		first[:cap(first)][i] = 77
	}
	if !slices.Equal(shares[:cap(shares)][:6], []uint64{1, 2, 3, 91, 92, 93}) {
		t.Errorf("the shares became %d", shares[:cap(shares)])
	}
	if !slices.Equal(second, []uint64{2, 4, 6}) {
		t.Errorf("the second parts became %d", second)
	}
	for i := range shares[:cap(shares)] {
		shares[:cap(shares)][i] = 55
	}
	if !slices.Equal(second, []uint64{2, 4, 6}) {
		t.Errorf("the parts went with the shares: %d", second)
	}
}

// R2, R4: the same again answers the same, and nil is the empty list.
func TestSameAgain(t *testing.T) {
	for range 3 {
		if got, left, e := Split(10, []uint64{1, 1, 1}); !slices.Equal(got, []uint64{3, 3, 3}) || left != 1 || e != api.OK {
			t.Errorf("Split: %d, %d, %d", got, left, e)
		}
		if got, left, e := Split(10, nil); len(got) != 0 || left != 0 || e != api.ErrNone {
			t.Errorf("Split by none: %d, %d, %d", got, left, e)
		}
		if got, e := Sum(nil); got != 0 || e != api.OK {
			t.Errorf("Sum of none: %d, %d", got, e)
		}
	}
}
