package marks

import (
	"bytes"
	"math"
	"math/rand"
	"slices"
	"testing"

	"psephos/api"
)

// plain is the chapter's marks as a set of numbers.
type plain struct {
	size int
	set  map[int]bool
}

func plainOf(size int, set ...int) *plain {
	p := &plain{size, map[int]bool{}}
	for _, i := range set {
		p.set[i] = true
	}
	return p
}

func (p *plain) mark(i int) api.Errno {
	if i < 0 || i >= p.size {
		return api.ErrNone
	}
	if p.set[i] {
		return api.ErrExists
	}
	p.set[i] = true
	return api.OK
}

// spelled writes the bytes number by number.
func (p *plain) spelled() []byte {
	var b []byte
	for first := 0; first < p.size; first += 8 {
		sum, worth := 0, 1
		for i := first; i < first+8; i++ {
			if p.set[i] {
				sum += worth
			}
			worth *= 2
		}
		b = append(b, byte(sum))
	}
	return b
}

// check holds all that marks tell against the set.
func check(t *testing.T, m *Marks, p *plain, after string) {
	t.Helper()
	if m == nil {
		t.Fatalf("%s: no marks", after)
	}
	if m.Size() != p.size || m.Count() != len(p.set) {
		t.Fatalf("%s: Size %d, Count %d, wanted %d, %d", after, m.Size(), m.Count(), p.size, len(p.set))
	}
	for i := -9; i < p.size+17; i++ {
		if m.Has(i) != p.set[i] {
			t.Fatalf("%s: Has(%d) %v, wanted %v", after, i, m.Has(i), p.set[i])
		}
	}
	for _, i := range absent(p.size) {
		if m.Has(i) {
			t.Fatalf("%s: Has(%d)", after, i)
		}
	}
	if got := m.Bytes(); !bytes.Equal(got, p.spelled()) {
		t.Fatalf("%s: Bytes %x, wanted %x", after, got, p.spelled())
	}
}

// checkSet sets a mark of both and holds them against each other.
func checkSet(t *testing.T, m *Marks, p *plain, i int) {
	t.Helper()
	if got, want := m.Set(i), p.mark(i); got != want {
		t.Fatalf("size %d: Set(%d) %d, wanted %d", p.size, i, got, want)
	}
}

// absent lists numbers that are no marks of so many.
func absent(size int) []int {
	return []int{-1, -2, -7, -8, -9, -size - 1, math.MinInt, math.MinInt + 1, size, size + 1, size + 7, size + 8, api.MaxMarks, math.MaxInt, math.MaxInt - 7}
}

func sizes() []int {
	return []int{0, 1, 2, 6, 7, 8, 9, 10, 15, 16, 17, 63, 64, 65, 255, 256, 257, api.MaxMarks - 8, api.MaxMarks - 7, api.MaxMarks - 1, api.MaxMarks}
}

// P5.1

func TestNew(t *testing.T) {
	for _, size := range sizes() {
		check(t, New(size), plainOf(size), "New")
	}
	for _, size := range []int{-1, -7, -8, -5000, math.MinInt} {
		check(t, New(size), plainOf(0), "New of a negative size")
	}
	for _, size := range []int{4097, 4103, 4104, 5000, 1 << 40, math.MaxInt - 6, math.MaxInt} {
		check(t, New(size), plainOf(4096), "New of too great a size")
	}
}

func TestSetOnly(t *testing.T) {
	for _, size := range sizes() {
		for _, i := range []int{0, 1, 2, 6, 7, 8, 9, size / 2, size - 2, size - 1} {
			if i < 0 || i >= size {
				continue
			}
			m := New(size)
			if e := m.Set(i); e != api.OK {
				t.Error(size, i, e)
			}
			check(t, m, plainOf(size, i), "Set")
			for range 2 {
				if e := m.Set(i); e != api.ErrExists {
					t.Error(size, i, "again", e)
				}
				check(t, m, plainOf(size, i), "Set again")
			}
		}
	}
}

func TestSetNone(t *testing.T) {
	for _, size := range append(sizes(), -5, 9999) {
		m, p := New(size), plainOf(min(max(size, 0), 4096))
		for range 2 {
			for _, i := range absent(p.size) {
				if e := m.Set(i); e != api.ErrNone {
					t.Error(size, i, e)
				}
			}
			check(t, m, p, "Set of none")
			// Once more with the first and the last mark set.
			if p.size > 0 {
				checkSet(t, m, p, 0)
				checkSet(t, m, p, p.size-1)
			}
		}
	}
}

func TestSetAll(t *testing.T) {
	for _, size := range []int{0, 1, 7, 8, 9, 65} {
		up, down := New(size), New(size)
		p, q := plainOf(size), plainOf(size)
		for i := range size {
			checkSet(t, up, p, i)
			check(t, up, p, "Set upwards")
			checkSet(t, down, q, size-1-i)
			check(t, down, q, "Set downwards")
		}
		for i := -1; i <= size; i++ {
			checkSet(t, up, p, i)
		}
		check(t, up, p, "Set of all again")
	}
	m, p := New(api.MaxMarks), plainOf(api.MaxMarks)
	for i := range api.MaxMarks {
		checkSet(t, m, p, i)
	}
	check(t, m, p, "Set of the most")
}

func TestZeroMarks(t *testing.T) {
	var m Marks
	check(t, &m, plainOf(0), "zero Marks")
	for _, i := range absent(0) {
		if e := m.Set(i); e != api.ErrNone {
			t.Error(i, e)
		}
	}
	check(t, &m, plainOf(0), "zero Marks after Set")
}

func TestMarksAreApart(t *testing.T) {
	a, b := New(9), New(9)
	a.Set(8)
	check(t, b, plainOf(9), "the other marks")
	b.Set(1)
	check(t, a, plainOf(9, 8), "the first marks")
}

// P5.2

func TestBytesSpelledOut(t *testing.T) {
	for _, x := range []struct {
		size int
		set  []int
		want string
	}{
		{0, nil, ""},
		{1, nil, "\x00"},
		{1, []int{0}, "\x01"},
		{7, []int{6}, "\x40"},
		{7, []int{0, 1, 2, 3, 4, 5, 6}, "\x7f"},
		{8, nil, "\x00"},
		{8, []int{7}, "\x80"},
		{8, []int{7, 0}, "\x81"},
		{9, nil, "\x00\x00"},
		{9, []int{8}, "\x00\x01"},
		{10, []int{9}, "\x00\x02"},
		{10, []int{0, 9}, "\x01\x02"},
		{16, []int{15, 4}, "\x10\x80"},
		{17, []int{16, 10, 3}, "\x08\x04\x01"},
	} {
		m := New(x.size)
		for _, i := range x.set {
			m.Set(i)
		}
		if got := m.Bytes(); string(got) != x.want {
			t.Errorf("%d with %d: %x, wanted %x", x.size, x.set, got, x.want)
		}
		n, e := Of(x.size, []byte(x.want))
		if e != api.OK {
			t.Fatalf("Of(%d, %x): %d", x.size, x.want, e)
		}
		check(t, n, plainOf(x.size, x.set...), "Of")
	}
}

func TestBytesWidth(t *testing.T) {
	for size := range 40 {
		if got, want := len(New(size).Bytes()), int(math.Ceil(float64(size)/8)); got != want {
			t.Error(size, got, want)
		}
	}
	if got := len(New(api.MaxMarks).Bytes()); got != 512 {
		t.Error(got)
	}
	if got := len(New(api.MaxMarks - 8).Bytes()); got != 511 {
		t.Error(got)
	}
}

func wantOfError(t *testing.T, size int, b []byte, want api.Errno) {
	t.Helper()
	if m, e := Of(size, b); m != nil || e != want {
		t.Errorf("Of(%d, %x): %v, %d, wanted %d", size, b, m, e, want)
	}
}

// A wrong size is told whatever the bytes are.
func TestOfWrongSize(t *testing.T) {
	for _, size := range []int{-1, -7, -8, -9, math.MinInt, 4097, 4103, 4104, 1 << 40, math.MaxInt - 6, math.MaxInt} {
		for _, b := range [][]byte{nil, {}, {0}, {1}, {255}, make([]byte, 512), make([]byte, 513), bytes.Repeat([]byte{255}, 600)} {
			wantOfError(t, size, b, api.ErrArg)
		}
	}
}

func TestOfWrongWidth(t *testing.T) {
	for _, size := range sizes() {
		due := len(plainOf(size).spelled())
		for _, n := range []int{0, 1, due - 2, due - 1, due + 1, due + 2, size, 511, 513, 1000} {
			if n >= 0 && n != due {
				wantOfError(t, size, make([]byte, n), api.ErrForm)
				wantOfError(t, size, bytes.Repeat([]byte{1}, n), api.ErrForm)
			}
		}
	}
}

// Each bit alone, and beside all the marks: those of marks are taken, those
// behind the last mark are not.
func TestOfEachBit(t *testing.T) {
	for _, size := range sizes() {
		none, all := plainOf(size), plainOf(size)
		for i := range size {
			all.mark(i)
		}
		due := len(none.spelled())
		for i := size; i < 8*due; i++ {
			for _, p := range []*plain{none, all} {
				b := p.spelled()
				b[i/8] |= 1 << (i % 8)
				wantOfError(t, size, b, api.ErrForm)
			}
		}
		for _, i := range []int{0, 1, 7, 8, size / 2, size - 1} {
			if i < 0 || i >= size {
				continue
			}
			b := none.spelled()
			b[i/8] |= 1 << (i % 8)
			m, e := Of(size, b)
			if e != api.OK {
				t.Fatal(size, i, e)
			}
			check(t, m, plainOf(size, i), "Of with a bit")
		}
		m, e := Of(size, all.spelled())
		if e != api.OK {
			t.Fatal(size, e)
		}
		check(t, m, all, "Of with all marks")
	}
}

// Every last byte there is, for the sizes of one and two bytes.
func TestOfEachLastByte(t *testing.T) {
	for size := 1; size <= 16; size++ {
		due := len(plainOf(size).spelled())
		for last := range 256 {
			b := make([]byte, due)
			b[due-1] = byte(last)
			m, e := Of(size, b)
			fits := last>>(size-8*(due-1)) == 0
			if fits != (e == api.OK) || !fits && (e != api.ErrForm || m != nil) {
				t.Errorf("Of(%d, %x): %d", size, b, e)
			}
			if e == api.OK && !bytes.Equal(m.Bytes(), b) {
				t.Errorf("Of(%d, %x): the bytes are %x", size, b, m.Bytes())
			}
		}
	}
}

func TestOfNoMarks(t *testing.T) {
	for _, b := range [][]byte{nil, {}} {
		m, e := Of(0, b)
		if e != api.OK {
			t.Fatal(e)
		}
		check(t, m, plainOf(0), "Of no marks")
		if e := m.Set(0); e != api.ErrNone {
			t.Error(e)
		}
	}
	wantOfError(t, 0, []byte{0}, api.ErrForm)
}

// Marks made from bytes go on as those that the bytes are of.
func TestOfTurnsBytesBack(t *testing.T) {
	r := rand.New(rand.NewSource(1))
	for range 2000 {
		size := r.Intn(70)
		m, p := New(size), plainOf(size)
		for range r.Intn(100) {
			checkSet(t, m, p, r.Intn(size+4)-2)
		}
		n, e := Of(size, m.Bytes())
		if e != api.OK {
			t.Fatal(size, e)
		}
		check(t, n, p, "Of the bytes")
		for range 10 {
			checkSet(t, n, p, r.Intn(size+4)-2)
		}
		check(t, n, p, "Of the bytes, and more")
	}
}

func TestLongRows(t *testing.T) {
	r := rand.New(rand.NewSource(2))
	for _, size := range append(sizes(), 100, 1000, 3000) {
		m, p := New(size), plainOf(size)
		for step := range 2*size + 100 {
			checkSet(t, m, p, r.Intn(size+16)-8)
			i := r.Intn(size+16) - 8
			if m.Has(i) != p.set[i] || m.Count() != len(p.set) || m.Size() != size {
				t.Fatal(size, step, i, m.Has(i), m.Count(), m.Size())
			}
			if step%97 == 0 {
				check(t, m, p, "long row")
			}
		}
		check(t, m, p, "end of a long row")
	}
}

// R1

func TestNilMarks(t *testing.T) {
	var m *Marks
	for _, i := range append(absent(0), 0, 1) {
		if e := m.Set(i); e != api.ErrArg {
			t.Error("Set", i, e)
		}
		if m.Has(i) {
			t.Error("Has", i)
		}
	}
	if m.Count() != 0 || m.Size() != 0 || m.Bytes() != nil {
		t.Error(m.Count(), m.Size(), m.Bytes())
	}
}

// R3

// spoil overwrites a list, with what its memory has room for.
func spoil(b []byte) {
	b = b[:cap(b)]
	for i := range b {
		b[i] ^= 0x5a
	}
}

func TestBytesAreNewMemory(t *testing.T) {
	for _, size := range []int{1, 8, 9, 100, api.MaxMarks} {
		m, p := New(size), plainOf(size)
		checkSet(t, m, p, size-1)
		first, second := m.Bytes(), m.Bytes()
		kept := slices.Clone(second)
		spoil(first)
		check(t, m, p, "bytes written into")
		if !bytes.Equal(second, kept) {
			t.Error(size, "two results share memory")
		}
		checkSet(t, m, p, 0)
		if !bytes.Equal(second, kept) {
			t.Error(size, "a result follows the marks")
		}
	}
}

func TestOfLeavesItsArgument(t *testing.T) {
	for _, size := range []int{1, 9, 16, 100, api.MaxMarks} {
		p := plainOf(size, 0)
		whole := append(p.spelled(), bytes.Repeat([]byte{0xa5}, 40)...)
		before := slices.Clone(whole)
		b := whole[:len(whole)-40]
		m, e := Of(size, b)
		if e != api.OK {
			t.Fatal(size, e)
		}
		n, _ := Of(size, b)
		checkSet(t, m, p, size-1)
		spoil(m.Bytes())
		if !bytes.Equal(whole, before) {
			t.Errorf("size %d: the argument changed: %x", size, whole)
		}
		spoil(b)
		check(t, m, p, "argument written into")
		check(t, n, plainOf(size, 0), "other marks of the same bytes")
	}
	b := []byte{1, 4}
	wantOfError(t, 10, b, api.ErrForm)
	if string(b) != "\x01\x04" {
		t.Errorf("%x", b)
	}
}
