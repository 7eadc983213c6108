package compact

import (
	"bytes"
	"math"
	"math/big"
	"math/rand"
	"slices"
	"testing"

	"psephos/api"
)

// spelled works the bytes of n out by the chapter's words, in big numbers.
func spelled(n uint64) []byte {
	whole := new(big.Int).SetUint64(n)
	below := func(bits uint) bool { return whole.BitLen() <= int(bits) }
	coded := func(form int64, size int) []byte {
		four := new(big.Int).Mul(whole, big.NewInt(4))
		return turned(four.Add(four, big.NewInt(form)).FillBytes(make([]byte, size)))
	}
	switch {
	case below(6):
		return coded(0, 1)
	case below(14):
		return coded(1, 2)
	case below(30):
		return coded(2, 4)
	}
	own := turned(whole.Bytes())
	return append([]byte{byte(4*(len(own)-4) + 3)}, own...)
}

func turned(b []byte) []byte {
	slices.Reverse(b)
	return b
}

// taken works the answer of Take out by the chapter's words, error by error.
func taken(b []byte) (uint64, int, api.Errno) {
	if len(b) == 0 {
		return 0, 0, api.ErrNone
	}
	form := b[0] % 4
	size := []int{1, 2, 4, 5 + int(b[0]/4)}[form]
	switch {
	case size-1 > 8 && form == 3:
		return 0, 0, api.ErrForm
	case len(b) < size:
		return 0, 0, api.ErrNone
	}
	part := turned(slices.Clone(b[:size]))
	whole := new(big.Int)
	if form == 3 {
		whole.SetBytes(part[:size-1])
	} else {
		whole.Div(whole.SetBytes(part), big.NewInt(4))
	}
	if !bytes.Equal(spelled(whole.Uint64()), b[:size]) {
		return 0, 0, api.ErrForm
	}
	return whole.Uint64(), size, api.OK
}

// takenList works the answer of TakeList out by the chapter's words.
func takenList(b []byte, most int) ([]uint64, int, api.Errno) {
	count, used, e := taken(b)
	if e != api.OK {
		return nil, 0, e
	}
	if most < 0 || new(big.Int).SetUint64(count).Cmp(big.NewInt(int64(most))) > 0 {
		return nil, 0, api.ErrLong
	}
	var list []uint64
	for ; count > 0; count-- {
		n, size, e := taken(b[used:])
		if e != api.OK {
			return nil, 0, e
		}
		list, used = append(list, n), used+size
	}
	return list, used, api.OK
}

// edges lists each power of two, with its neighbours and its last ones.
func edges() []uint64 {
	list := []uint64{0, 1, 2, 3, 10, 100, 1000, 1e6, 1e9, 1e12, 1e18, math.MaxUint64}
	for shift := range 64 {
		n := uint64(1) << shift
		list = append(list, n-1, n, n+1, n|n>>1, n|1<<(shift/2), ^n)
	}
	return list
}

func anyNumber(r *rand.Rand) uint64 { return r.Uint64() >> r.Intn(64) }

func checkTake(t *testing.T, b []byte) {
	t.Helper()
	n, size, e := Take(b)
	wantN, wantSize, wantE := taken(b)
	if n != wantN || size != wantSize || e != wantE {
		t.Errorf("Take(%x): %d, %d, %d, want %d, %d, %d", b, n, size, e, wantN, wantSize, wantE)
	}
}

func checkTakeList(t *testing.T, b []byte, most int) {
	t.Helper()
	list, size, e := TakeList(b, most)
	wantList, wantSize, wantE := takenList(b, most)
	if !slices.Equal(list, wantList) || size != wantSize || e != wantE {
		t.Errorf("TakeList(%x, %d): %d, %d, %d, want %d, %d, %d", b, most, list, size, e, wantList, wantSize, wantE)
	}
	if e != api.OK && list != nil {
		t.Errorf("TakeList(%x, %d): a list beside the error %d", b, most, e)
	}
}

func wantTakeError(t *testing.T, b []byte, want api.Errno) {
	t.Helper()
	if n, size, e := Take(b); n != 0 || size != 0 || e != want {
		t.Errorf("Take(%x): %d, %d, %d, want the error %d", b, n, size, e, want)
	}
}

func wantListError(t *testing.T, b []byte, most int, want api.Errno) {
	t.Helper()
	if list, size, e := TakeList(b, most); list != nil || size != 0 || e != want {
		t.Errorf("TakeList(%x, %d): %d, %d, %d, want the error %d", b, most, list, size, e, want)
	}
}

// table gives the bytes of numbers as they stand in the chapter or follow from
// it by hand.
func table() map[uint64]string {
	return map[uint64]string{
		0: "\x00", 1: "\x04", 2: "\x08", 42: "\xa8", 62: "\xf8", 63: "\xfc",
		64: "\x01\x01", 65: "\x05\x01", 69: "\x15\x01", 255: "\xfd\x03", 256: "\x01\x04", 1<<14 - 2: "\xf9\xff", 1<<14 - 1: "\xfd\xff",
		1 << 14: "\x02\x00\x01\x00", 65535: "\xfe\xff\x03\x00", 1<<22 - 1: "\xfe\xff\xff\x00", 1<<30 - 1: "\xfe\xff\xff\xff",
		1 << 30: "\x03\x00\x00\x00\x40", 1<<32 - 1: "\x03\xff\xff\xff\xff",
		1 << 32: "\x07\x00\x00\x00\x00\x01", 1<<40 - 1: "\x07\xff\xff\xff\xff\xff",
		1 << 40: "\x0b\x00\x00\x00\x00\x00\x01", 100000000000000: "\x0b\x00\x40\x7a\x10\xf3\x5a", 1<<48 - 1: "\x0b\xff\xff\xff\xff\xff\xff",
		1 << 48: "\x0f\x00\x00\x00\x00\x00\x00\x01", 1<<56 - 1: "\x0f\xff\xff\xff\xff\xff\xff\xff",
		1 << 56: "\x13\x00\x00\x00\x00\x00\x00\x00\x01", 1<<64 - 1: "\x13\xff\xff\xff\xff\xff\xff\xff\xff",
		0x0123456789abcdef: "\x13\xef\xcd\xab\x89\x67\x45\x23\x01",
	}
}

// P3.1

func TestBytesOfNumbers(t *testing.T) {
	for n, want := range table() {
		if got := Append(nil, n); string(got) != want {
			t.Errorf("Append(nil, %d): %x, want %x", n, got, want)
		}
		if got := Size(n); got != len(want) {
			t.Errorf("Size(%d): %d, want %d", n, got, len(want))
		}
		if got, size, e := Take([]byte(want)); got != n || size != len(want) || e != api.OK {
			t.Errorf("Take(%x): %d, %d, %d, want %d", want, got, size, e, n)
		}
	}
}

func TestAppendAndSize(t *testing.T) {
	r := rand.New(rand.NewSource(1))
	numbers := edges()
	for range 20000 {
		numbers = append(numbers, anyNumber(r))
	}
	for n := range uint64(1 << 16) {
		numbers = append(numbers, n)
	}
	for _, n := range numbers {
		want := spelled(n)
		if got := Append(nil, n); !bytes.Equal(got, want) {
			t.Errorf("Append(nil, %d): %x, want %x", n, got, want)
		}
		if got := Size(n); got != len(want) {
			t.Errorf("Size(%d): %d, want %d", n, got, len(want))
		}
	}
}

func TestAppendBehindBytes(t *testing.T) {
	for _, b := range [][]byte{nil, {}, {0}, {255}, {1, 2, 3}, bytes.Repeat([]byte{7}, 5000)} {
		for _, n := range edges() {
			want := append(slices.Clone(b), spelled(n)...)
			if got := Append(b, n); !bytes.Equal(got, want) {
				t.Errorf("Append(%x, %d): %x, want %x", b, n, got, want)
			}
		}
	}
}

func TestTakeShortBytes(t *testing.T) {
	wantTakeError(t, nil, api.ErrNone)
	wantTakeError(t, []byte{}, api.ErrNone)
	for first := range 256 {
		checkTake(t, []byte{byte(first)})
		for second := range 256 {
			checkTake(t, []byte{byte(first), byte(second)})
		}
	}
}

func TestTakeMoreThanEightStated(t *testing.T) {
	for k := 9; k <= 67; k++ {
		first := byte(4*(k-4) + 3)
		for length := 1; length <= k+3; length++ {
			for _, fill := range []byte{0, 1, 255} {
				b := bytes.Repeat([]byte{fill}, length)
				b[0] = first
				wantTakeError(t, b, api.ErrForm)
			}
		}
	}
	// Eight are not too many.
	wantTakeError(t, []byte{0x13}, api.ErrNone)
	if n, size, e := Take([]byte{0x13, 1, 0, 0, 0, 0, 0, 0, 2}); n != 2<<56+1 || size != 9 || e != api.OK {
		t.Error(n, size, e)
	}
}

func TestTakeEndsEarly(t *testing.T) {
	for _, n := range edges() {
		whole := spelled(n)
		for end := range len(whole) {
			wantTakeError(t, whole[:end], api.ErrNone)
			// What stands behind the end is not read even where there is room.
			wantTakeError(t, slices.Clone(whole)[:end], api.ErrNone)
		}
	}
	// The end is missed ahead of the form: these would be no bytes of a number
	// at any end.
	for _, s := range []string{"\x01", "\x02\x00", "\x02\x00\x00", "\x03\x00", "\x03\x00\x00\x00", "\x07\x00\x00\x00\x00", "\x13\x00\x00\x00\x00\x00\x00\x00"} {
		wantTakeError(t, []byte(s), api.ErrNone)
	}
}

// stretched returns the bytes that n would have in the form of a given size,
// if that form were due.
func stretched(n uint64, size int) []byte {
	b := make([]byte, size)
	own := b
	switch size {
	case 1, 2, 4:
		n = n<<2 | uint64(size>>1)
	default:
		b[0] = byte(4*(size-5) + 3)
		own = b[1:]
	}
	for i := range own {
		own[i] = byte(n)
		n >>= 8
	}
	return b
}

func TestTakeWrongForm(t *testing.T) {
	sizes := []int{1, 2, 4, 5, 6, 7, 8, 9}
	for _, n := range edges() {
		due := len(spelled(n))
		for _, size := range sizes {
			b := stretched(n, size)
			switch {
			case size > due:
				wantTakeError(t, b, api.ErrForm)
				wantTakeError(t, append(b, 1), api.ErrForm)
			case size == due:
				if got, used, e := Take(b); got != n || used != size || e != api.OK {
					t.Errorf("Take(%x): %d, %d, %d, want %d", b, got, used, e, n)
				}
			}
		}
	}
	for _, s := range []string{
		"\x01\x00", "\xfd\x00", "\x02\x00\x00\x00", "\xfe\x00\x00\x00", "\xfe\xff\x00\x00",
		"\x03\x00\x00\x00\x00", "\x03\xff\xff\xff\x3f", "\x07\x00\x00\x00\x00\x00", "\x07\xff\xff\xff\xff\x00", "\x07\x00\x00\x00\x40\x00",
		"\x0b\xff\xff\xff\xff\xff\x00", "\x0f\xff\xff\xff\xff\xff\xff\x00", "\x13\xff\xff\xff\xff\xff\xff\xff\x00", "\x13\x00\x00\x00\x00\x00\x00\x00\x00",
	} {
		wantTakeError(t, []byte(s), api.ErrForm)
	}
}

func TestTakeAnyBytes(t *testing.T) {
	r := rand.New(rand.NewSource(2))
	for range 100000 {
		b := make([]byte, r.Intn(12))
		for i := range b {
			b[i] = []byte{0, byte(r.Intn(8)), byte(r.Intn(256)), 255}[r.Intn(4)]
		}
		checkTake(t, b)
	}
}

// P3.2

func lists() [][]uint64 {
	long := func(n int, x uint64) []uint64 { return slices.Repeat([]uint64{x}, n) }
	return [][]uint64{
		nil, {}, {0}, {1}, {63}, {64}, {math.MaxUint64}, {1, 64}, {64, 1}, {0, 0, 0}, edges(), {3, 2, 1}, {1, 2, 3}, {5, 5},
		{63, 64, 1<<14 - 1, 1 << 14, 1<<30 - 1, 1 << 30, 1<<32 - 1, 1 << 32},
		long(63, 0), long(64, 0), long(65, 9), long(1<<14-1, 1), long(1<<14, 1<<30),
	}
}

func spelledList(list []uint64) []byte {
	b := spelled(uint64(len(list)))
	for _, n := range list {
		b = append(b, spelled(n)...)
	}
	return b
}

func TestList(t *testing.T) {
	if got := List(nil, nil); string(got) != "\x00" {
		t.Errorf("List(nil, nil): %x", got)
	}
	if got := List([]byte{9}, []uint64{1, 64, 1 << 14}); string(got) != "\x09\x0c\x04\x01\x01\x02\x00\x01\x00" {
		t.Errorf("List: %x", got)
	}
	for _, list := range lists() {
		for _, b := range [][]byte{nil, {}, {0}, {1, 2, 3}} {
			want := append(slices.Clone(b), spelledList(list)...)
			if got := List(b, list); !bytes.Equal(got, want) {
				t.Errorf("List(%x, %d): %x, want %x", b, list, got, want)
			}
		}
	}
}

func TestTakeListMost(t *testing.T) {
	for _, list := range lists() {
		b, count := spelledList(list), len(list)
		for _, most := range []int{count, count + 1, count + 1000, math.MaxInt} {
			if got, size, e := TakeList(b, most); !slices.Equal(got, list) || size != len(b) || e != api.OK {
				t.Errorf("TakeList(%x, %d): %d, %d, %d", b, most, got, size, e)
			}
		}
		for _, most := range []int{count - 1, count / 2, 1, 0, -1, -2, -count, math.MinInt} {
			if most < count {
				wantListError(t, b, most, api.ErrLong)
			}
		}
	}
}

func TestTakeListMostOfNone(t *testing.T) {
	if got, size, e := TakeList([]byte{0}, 0); len(got) != 0 || size != 1 || e != api.OK {
		t.Error(got, size, e)
	}
	if got, size, e := TakeList([]byte{0, 0xff, 0x17}, 0); len(got) != 0 || size != 1 || e != api.OK {
		t.Error(got, size, e)
	}
	wantListError(t, []byte{4, 4}, 0, api.ErrLong)
	wantListError(t, []byte{0}, -1, api.ErrLong)
	wantListError(t, []byte{0}, math.MinInt, api.ErrLong)
}

// faults lists bytes that Take refuses.
func faults() map[string]api.Errno {
	return map[string]api.Errno{
		"": api.ErrNone, "\x01": api.ErrNone, "\x02\x00\x01": api.ErrNone, "\x03\x00\x00\x00": api.ErrNone, "\x13\x01\x01\x01\x01\x01\x01\x01": api.ErrNone,
		"\x17": api.ErrForm, "\xff": api.ErrForm, "\x01\x00": api.ErrForm, "\x02\x00\x00\x00": api.ErrForm, "\x03\x00\x00\x00\x3f": api.ErrForm, "\x07\x00\x00\x00\x40\x00": api.ErrForm,
	}
}

func TestTakeListFaults(t *testing.T) {
	for fault, want := range faults() {
		for _, most := range []int{math.MinInt, -1, 0, 1, 5, math.MaxInt} {
			// The number of elements is read ahead of asking whether it is too great.
			wantListError(t, []byte(fault), most, want)
			// Whether it is too great is asked ahead of reading the elements.
			for place := range 4 {
				b := append(bytes.Repeat([]byte{4}, place+1), fault...)
				b[0] = 4 * 4
				if most < 4 {
					wantListError(t, b, most, api.ErrLong)
				} else {
					wantListError(t, b, most, want)
				}
			}
		}
	}
}

func TestTakeListFirstFaultCounts(t *testing.T) {
	// A fault of form ahead of the missing end, and behind it only the end.
	wantListError(t, []byte{12, 4, 0x17, 1}, 3, api.ErrForm)
	wantListError(t, []byte{12, 0x17}, 3, api.ErrForm)
	wantListError(t, []byte{12, 4, 4}, 3, api.ErrNone)
	wantListError(t, []byte{12, 1, 0, 0x17}, 3, api.ErrForm)
	wantListError(t, []byte{12, 4, 0x13, 0x17}, 3, api.ErrNone)
	// A fault behind the last element is not the list's.
	if got, size, e := TakeList([]byte{8, 4, 8, 0x17}, 2); !slices.Equal(got, []uint64{1, 2}) || size != 3 || e != api.OK {
		t.Error(got, size, e)
	}
}

func TestTakeListStatesMoreThanThereIs(t *testing.T) {
	for _, count := range []uint64{1, 2, 63, 64, 1 << 14, 1 << 30, 1 << 40, math.MaxInt64} {
		b := spelled(count)
		wantListError(t, b, math.MaxInt, api.ErrNone)
		wantListError(t, b, int(count-1), api.ErrLong)
		if count > 1 {
			wantListError(t, append(b, 4), math.MaxInt, api.ErrNone)
			wantListError(t, append(b, 4), int(count), api.ErrNone)
			wantListError(t, append(b, 1, 0), int(count), api.ErrForm)
		}
	}
	// More elements than any int counts.
	for _, count := range []uint64{1 << 63, 1<<63 + 1, math.MaxUint64} {
		wantListError(t, append(spelled(count), 4), math.MaxInt, api.ErrLong)
		wantListError(t, append(spelled(count), 4), -1, api.ErrLong)
	}
}

func TestTakeListEndsEarly(t *testing.T) {
	for _, list := range lists() {
		b := spelledList(list)
		if len(b) > 5000 {
			continue
		}
		for end := range len(b) {
			wantListError(t, b[:end], len(list), api.ErrNone)
		}
	}
}

func TestTakeListAnyBytes(t *testing.T) {
	r := rand.New(rand.NewSource(3))
	for range 50000 {
		b := make([]byte, r.Intn(14))
		for i := range b {
			b[i] = []byte{0, byte(4 * r.Intn(6)), byte(r.Intn(8)), byte(r.Intn(256))}[r.Intn(4)]
		}
		checkTakeList(t, b, r.Intn(10)-2)
		checkTakeList(t, b, math.MaxInt)
	}
}

// P3.3

func TestTakeTurnsAppendBack(t *testing.T) {
	r := rand.New(rand.NewSource(4))
	numbers := edges()
	for range 20000 {
		numbers = append(numbers, anyNumber(r))
	}
	for _, n := range numbers {
		b := Append(nil, n)
		for _, behind := range []string{"", "\x00", "\x17", "\xff\xff\xff"} {
			if got, size, e := Take(append(slices.Clone(b), behind...)); got != n || size != len(b) || size != Size(n) || e != api.OK {
				t.Errorf("Take of the bytes of %d and %x: %d, %d, %d", n, behind, got, size, e)
			}
		}
	}
}

func TestTakeListTurnsListBack(t *testing.T) {
	r := rand.New(rand.NewSource(5))
	all := lists()
	for range 2000 {
		list := make([]uint64, r.Intn(70))
		for i := range list {
			list[i] = anyNumber(r)
		}
		all = append(all, list)
	}
	for _, list := range all {
		b := List(nil, list)
		for _, behind := range []string{"", "\x00", "\x17", "\x04\x04"} {
			got, size, e := TakeList(append(slices.Clone(b), behind...), len(list))
			if !slices.Equal(got, list) || size != len(b) || e != api.OK {
				t.Errorf("TakeList of the bytes of %d and %x: %d, %d, %d", list, behind, got, size, e)
			}
		}
	}
}

// What is read is written as the same bytes.
func TestAppendTurnsTakeBack(t *testing.T) {
	r := rand.New(rand.NewSource(6))
	for range 50000 {
		b := make([]byte, 1+r.Intn(10))
		r.Read(b)
		b[0] = []byte{b[0], b[0]&^3 | 1, b[0] & 0x1f}[r.Intn(3)]
		if n, size, e := Take(b); e == api.OK && !bytes.Equal(Append(nil, n), b[:size]) {
			t.Errorf("Append(nil, %d) is not %x", n, b[:size])
		}
		if list, size, e := TakeList(b, math.MaxInt); e == api.OK && !bytes.Equal(List(nil, list), b[:size]) {
			t.Errorf("List(nil, %d) is not %x", list, b[:size])
		}
	}
}

// Several numbers behind each other are read one by one.
func TestTakeInARow(t *testing.T) {
	var b []byte
	for _, n := range edges() {
		b = Append(b, n)
	}
	for _, want := range edges() {
		n, size, e := Take(b)
		if n != want || e != api.OK {
			t.Fatalf("%d, %d, want %d", n, e, want)
		}
		b = b[size:]
	}
	wantTakeError(t, b, api.ErrNone)
}

// R3

// spare returns b with 40 bytes behind it in the same memory, and all of it.
func spare(b []byte) ([]byte, []byte) {
	whole := append(slices.Clone(b), bytes.Repeat([]byte{0xa5}, 40)...)
	return whole[:len(b)], whole
}

// mark overwrites a result, with what its memory has room for.
func mark[T byte | uint64](list []T) {
	list = list[:cap(list)]
	for i := range list {
		list[i] ^= 0x5a
	}
}

func TestArgumentsAreLeftAndResultsNew(t *testing.T) {
	for _, start := range [][]byte{{}, {8}, {8, 4, 1, 1}, {0x03, 0, 0, 0, 0x40}, {8, 4}, {0x17}, {1, 0}, spelledList(edges())} {
		b, whole := spare(start)
		before := slices.Clone(whole)
		numbers := append(make([]uint64, 0, 10), 7, 1<<40, 64)
		roomFor := slices.Clone(numbers[:cap(numbers)])

		one := Append(b, 1<<40)
		two := Append(b, 1<<50)
		three := List(b, numbers)
		four := List(b, nil)
		kept := [][]byte{slices.Clone(two), slices.Clone(three), slices.Clone(four)}
		mark(one)
		if !bytes.Equal(two, kept[0]) || !bytes.Equal(three, kept[1]) || !bytes.Equal(four, kept[2]) {
			t.Errorf("results behind %x share memory", start)
		}
		mark(two)
		mark(three)
		mark(four)
		Take(b)
		list, _, _ := TakeList(b, 1000)
		again, _, _ := TakeList(b, 1000)
		last := slices.Clone(again)
		mark(list)
		if !slices.Equal(again, last) {
			t.Errorf("lists taken from %x share memory", start)
		}
		if !bytes.Equal(whole, before) || !slices.Equal(numbers[:cap(numbers)], roomFor) {
			t.Errorf("arguments changed: %x to %x, %d to %d", before, whole, roomFor, numbers)
		}
	}
}

func TestArgumentsAreNotKept(t *testing.T) {
	b, numbers := []byte{8, 4, 8}, []uint64{5, 6}
	first, second := Append(b, 3), List(b, numbers)
	list, _, _ := TakeList(b, 2)
	mark(b)
	mark(numbers)
	if string(first) != "\x08\x04\x08\x0c" || string(second) != "\x08\x04\x08\x08\x14\x18" || !slices.Equal(list, []uint64{1, 2}) {
		t.Errorf("%x, %x, %d", first, second, list)
	}
}

// A result's spare capacity is memory of its own too: what is appended to one
// does not show in another.
func TestAppendToResult(t *testing.T) {
	b, whole := spare([]byte{1, 2})
	before := slices.Clone(whole)
	first := Append(b, 3)
	left, right := Append(first, 5), Append(first, 6)
	if string(left) != "\x01\x02\x0c\x14" || string(right) != "\x01\x02\x0c\x18" {
		t.Errorf("%x, %x", left, right)
	}
	_ = append(first, 1, 2, 3, 4)
	if !bytes.Equal(whole, before) {
		t.Errorf("the argument changed: %x", whole)
	}
}
