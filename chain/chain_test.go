package chain

import (
	"iter"
	"math"
	"math/rand"
	"slices"
	"strconv"
	"testing"

	"psephos/api"
)

// pair is a handle with its member.
type pair[T any] struct {
	handle int
	value  T
}

func pairs[T any](seq iter.Seq2[int, T]) []pair[T] {
	var list []pair[T]
	for h, v := range seq {
		list = append(list, pair[T]{h, v})
	}
	return list
}

// plain is the chapter's row as a list that is gone through for each call.
type plain[T any] struct {
	row   []pair[T]
	given int
}

func (p *plain[T]) place(h int) int {
	return slices.IndexFunc(p.row, func(x pair[T]) bool { return x.handle == h })
}

func (p *plain[T]) insert(place int, v T) int {
	p.given++
	p.row = slices.Insert(p.row, place, pair[T]{p.given, v})
	return p.given
}

func (p *plain[T]) ahead(of int, v T) (int, api.Errno) {
	place := p.place(of)
	if place < 0 {
		return 0, api.ErrNone
	}
	return p.insert(place, v), api.OK
}

func (p *plain[T]) remove(h int) (v T, ok bool) {
	place := p.place(h)
	if place < 0 {
		return v, false
	}
	v = p.row[place].value
	p.row = slices.Delete(p.row, place, place+1)
	return v, true
}

func (p *plain[T]) move(h, of int) api.Errno {
	if p.place(h) < 0 || p.place(of) < 0 {
		return api.ErrNone
	}
	if h == of {
		return api.ErrArg
	}
	x := p.row[p.place(h)]
	p.row = slices.Delete(p.row, p.place(h), p.place(h)+1)
	p.row = slices.Insert(p.row, p.place(of), x)
	return api.OK
}

func (p *plain[T]) get(h int) (v T, ok bool) {
	place := p.place(h)
	if place < 0 {
		return v, false
	}
	return p.row[place].value, true
}

func (p *plain[T]) set(h int, v T) bool {
	place := p.place(h)
	if place >= 0 {
		p.row[place].value = v
	}
	return place >= 0
}

// check holds all that a chain tells of its members against the list.
func check[T comparable](t *testing.T, c *Chain[T], p *plain[T], after string) {
	t.Helper()
	if c.Len() != len(p.row) {
		t.Fatalf("%s: Len %d, wanted %d", after, c.Len(), len(p.row))
	}
	if got := pairs(c.All()); !slices.Equal(got, p.row) {
		t.Fatalf("%s: All %v, wanted %v", after, got, p.row)
	}
	back := slices.Clone(p.row)
	slices.Reverse(back)
	if got := pairs(c.Back()); !slices.Equal(got, back) {
		t.Fatalf("%s: Back %v, wanted %v", after, got, back)
	}
	for h := -1; h <= p.given+1; h++ {
		v, ok := c.Get(h)
		if wanted, there := p.get(h); v != wanted || ok != there {
			t.Fatalf("%s: Get(%d) %v %v, wanted %v %v", after, h, v, ok, wanted, there)
		}
	}
}

// of returns a chain with these members in this row, with the handles 1, 2, ..
func of(texts ...string) (*Chain[string], *plain[string]) {
	c, p := New[string](), &plain[string]{}
	for _, v := range texts {
		c.Last(v)
		p.insert(len(p.row), v)
	}
	return c, p
}

// absent lists numbers that are no handles of a chain with given handles.
func absent(given int) []int {
	return []int{0, -1, -2, -given, math.MinInt, given + 1, given + 2, math.MaxInt}
}

func TestEmptyChains(t *testing.T) {
	var zero Chain[string]
	if New[string]() == nil {
		t.Fatal("New returns nil")
	}
	for name, c := range map[string]*Chain[string]{"New": New[string](), "zero": &zero} {
		check(t, c, &plain[string]{}, name)
		for _, h := range append(absent(0), 1) {
			if v, ok := c.Remove(h); v != "" || ok {
				t.Error(name, "Remove", h, v, ok)
			}
			if n, e := c.Ahead(h, "x"); n != 0 || e != api.ErrNone {
				t.Error(name, "Ahead", h, n, e)
			}
			if e := c.Move(h, h); e != api.ErrNone {
				t.Error(name, "Move", h, e)
			}
			if c.Set(h, "x") {
				t.Error(name, "Set", h)
			}
		}
		check(t, c, &plain[string]{}, name+" after calls without effect")
	}
}

func TestChainsAreApart(t *testing.T) {
	a, b := New[string](), New[string]()
	a.Last("a")
	a.Last("b")
	if h := b.Last("c"); h != 1 {
		t.Error("first handle of the other chain", h)
	}
	a.Remove(1)
	check(t, b, &plain[string]{[]pair[string]{{1, "c"}}, 1}, "other chain")
}

// Either way of insertion may be the first call, of a zero Chain as of New's.
func TestInsertIntoEmpty(t *testing.T) {
	wanted := &plain[string]{[]pair[string]{{1, "a"}}, 1}
	var zero, other Chain[string]
	for _, c := range []*Chain[string]{New[string](), &zero} {
		if h := c.First("a"); h != 1 {
			t.Error("First", h)
		}
		check(t, c, wanted, "First")
	}
	for _, c := range []*Chain[string]{New[string](), &other} {
		if h := c.Last("a"); h != 1 {
			t.Error("Last", h)
		}
		check(t, c, wanted, "Last")
	}
}

func TestExample(t *testing.T) {
	c := New[string]()
	a, b := c.Last("a"), c.Last("b")
	x, e := c.Ahead(2, "c")
	if a != 1 || b != 2 || x != 3 || e != api.OK {
		t.Error(a, b, x, e)
	}
	check(t, c, &plain[string]{[]pair[string]{{1, "a"}, {3, "c"}, {2, "b"}}, 3}, "example")
}

func TestHandlesInOrderOfInsertion(t *testing.T) {
	c := New[int]()
	for i := 1; i <= 30; i++ {
		h, e := 0, api.OK
		switch i % 3 {
		case 0:
			h, e = c.Ahead(i/3, i)
		case 1:
			h = c.First(i)
		case 2:
			h = c.Last(i)
		}
		if h != i || e != api.OK {
			t.Error("insertion", i, "has the handle", h, e)
		}
	}
}

func TestHandlesAreNotReused(t *testing.T) {
	for _, gone := range [][]int{{1}, {2}, {3}, {3, 2, 1}, {1, 2, 3}, {2, 3}} {
		c, p := of("a", "b", "c")
		for _, h := range gone {
			c.Remove(h)
			p.remove(h)
		}
		if h := c.Last("d"); h != 4 {
			t.Error("Last after removing", gone, h)
		}
		c.Remove(4)
		if h := c.First("e"); h != 5 {
			t.Error("First after removing", gone, h)
		}
		if h, e := c.Ahead(5, "f"); h != 6 || e != api.OK {
			t.Error("Ahead after removing", gone, h, e)
		}
		p.row = slices.Insert(p.row, 0, pair[string]{6, "f"}, pair[string]{5, "e"})
		p.given = 6
		check(t, c, p, "insertion after removal")
	}
}

func TestAheadOfEach(t *testing.T) {
	for h := 1; h <= 4; h++ {
		c, p := of("a", "b", "c", "d")
		got, e := c.Ahead(h, "x")
		wanted, _ := p.ahead(h, "x")
		if got != wanted || e != api.OK {
			t.Error("Ahead", h, got, e)
		}
		check(t, c, p, "Ahead of "+strconv.Itoa(h))
	}
}

func TestAheadOfNone(t *testing.T) {
	c, p := of("a", "b", "c")
	c.Remove(2)
	p.remove(2)
	for _, h := range append(absent(3), 2) {
		if got, e := c.Ahead(h, "x"); got != 0 || e != api.ErrNone {
			t.Error("Ahead", h, got, e)
		}
		check(t, c, p, "Ahead of none")
	}
	if h := c.Last("d"); h != 4 {
		t.Error("an insertion that failed took a handle: next is", h)
	}
}

func TestRemoveEach(t *testing.T) {
	names := []string{"a", "b", "c", "d"}
	for size := 1; size <= len(names); size++ {
		for h := 1; h <= size; h++ {
			c, p := of(names[:size]...)
			p.remove(h)
			if v, ok := c.Remove(h); v != names[h-1] || !ok {
				t.Error("Remove", h, v, ok)
			}
			check(t, c, p, "Remove "+strconv.Itoa(h))
			if v, ok := c.Remove(h); v != "" || ok {
				t.Error("Remove again", h, v, ok)
			}
			check(t, c, p, "Remove again "+strconv.Itoa(h))
			c.Last("z")
			c.First("y")
			p.insert(len(p.row), "z")
			p.insert(0, "y")
			check(t, c, p, "insertion at both ends after Remove "+strconv.Itoa(h))
		}
	}
}

func TestRemoveNone(t *testing.T) {
	c, p := of("a", "b", "c")
	for _, h := range absent(3) {
		if v, ok := c.Remove(h); v != "" || ok {
			t.Error("Remove", h, v, ok)
		}
		check(t, c, p, "Remove of none")
	}
}

// Five members, so that each way of moving is among them: to where the member
// stands, over one and several, to the first place, of the first and the last.
func TestMoveEach(t *testing.T) {
	names := []string{"a", "b", "c", "d", "e"}
	for size := 2; size <= len(names); size++ {
		for h := 1; h <= size; h++ {
			for to := 1; to <= size; to++ {
				c, p := of(names[:size]...)
				wanted := p.move(h, to)
				if e := c.Move(h, to); e != wanted {
					t.Error("Move", h, to, e, wanted)
				}
				check(t, c, p, "Move "+strconv.Itoa(h)+" "+strconv.Itoa(to))
				c.Last("z")
				p.insert(len(p.row), "z")
				check(t, c, p, "Last after a move")
			}
		}
	}
}

func TestMoveSpelledOut(t *testing.T) {
	for _, x := range []struct {
		h, of int
		row   []int
	}{
		{1, 2, []int{1, 2, 3, 4}},
		{3, 4, []int{1, 2, 3, 4}},
		{1, 3, []int{2, 1, 3, 4}},
		{1, 4, []int{2, 3, 1, 4}},
		{2, 1, []int{2, 1, 3, 4}},
		{3, 1, []int{3, 1, 2, 4}},
		{4, 1, []int{4, 1, 2, 3}},
		{4, 3, []int{1, 2, 4, 3}},
		{4, 2, []int{1, 4, 2, 3}},
		{2, 4, []int{1, 3, 2, 4}},
	} {
		c, _ := of("a", "b", "c", "d")
		e := c.Move(x.h, x.of)
		var row []int
		for h := range c.All() {
			row = append(row, h)
		}
		if e != api.OK || !slices.Equal(row, x.row) {
			t.Error("Move", x.h, x.of, e, row, "wanted", x.row)
		}
	}
}

func TestMoveErrors(t *testing.T) {
	c, p := of("a", "b", "c")
	c.Remove(2)
	p.remove(2)
	for _, none := range append(absent(3), 2) {
		for _, x := range [][2]int{{1, none}, {none, 1}, {none, none}, {3, none}, {none, 3}, {none, 2}, {2, none}} {
			if e := c.Move(x[0], x[1]); e != api.ErrNone {
				t.Error("Move", x, e)
			}
		}
	}
	for _, h := range []int{1, 3} {
		if e := c.Move(h, h); e != api.ErrArg {
			t.Error("Move", h, h, e)
		}
	}
	check(t, c, p, "moves that failed")
	if h := c.Last("d"); h != 4 {
		t.Error("a move that failed took a handle: next is", h)
	}
}

func TestMoveOfTheOnlyMember(t *testing.T) {
	c, p := of("a")
	if e := c.Move(1, 1); e != api.ErrArg {
		t.Error(e)
	}
	if e := c.Move(1, 0); e != api.ErrNone {
		t.Error(e)
	}
	if e := c.Move(0, 1); e != api.ErrNone {
		t.Error(e)
	}
	check(t, c, p, "moves of the only member")
}

func TestGetAndSet(t *testing.T) {
	c, p := of("a", "b", "c")
	c.Remove(2)
	p.remove(2)
	for _, h := range append(absent(3), 2) {
		if v, ok := c.Get(h); v != "" || ok {
			t.Error("Get", h, v, ok)
		}
		if c.Set(h, "x") {
			t.Error("Set", h)
		}
		check(t, c, p, "Set of none")
	}
	for _, h := range []int{3, 1, 3} {
		if !c.Set(h, "x"+strconv.Itoa(h)) || !p.set(h, "x"+strconv.Itoa(h)) {
			t.Error("Set", h)
		}
		check(t, c, p, "Set")
	}
	if !c.Set(1, "") {
		t.Error("Set to the zero value")
	}
	if v, ok := c.Get(1); v != "" || !ok {
		t.Error("Get of the zero value", v, ok)
	}
	if v, ok := c.Remove(1); v != "" || !ok {
		t.Error("Remove of the zero value", v, ok)
	}
}

// Rows of none to three members, stopped after each number of them.
func TestIterationsStoppedEarly(t *testing.T) {
	for size := range 4 {
		c, p := of([]string{"a", "b", "c"}[:size]...)
		back := slices.Clone(p.row)
		slices.Reverse(back)
		for stop := 1; stop <= size; stop++ {
			for name, x := range map[string]struct {
				seq    iter.Seq2[int, string]
				wanted []pair[string]
			}{"All": {c.All(), p.row}, "Back": {c.Back(), back}} {
				var got []pair[string]
				x.seq(func(h int, v string) bool {
					got = append(got, pair[string]{h, v})
					return len(got) < stop
				})
				if !slices.Equal(got, x.wanted[:stop]) {
					t.Error(name, "stopped after", stop, got)
				}
			}
		}
		check(t, c, p, "iterations that were stopped")
	}
}

func TestIterationsAgainAndNested(t *testing.T) {
	c, p := of("a", "b", "c")
	all, back := c.All(), c.Back()
	for range 2 {
		n := 0
		for range all {
			for range back {
				n++
			}
		}
		if n != 9 {
			t.Error("nested iterations saw", n)
		}
	}
	// An iterator that was made ahead of a change tells the row as it is.
	c.Move(3, 1)
	p.move(3, 1)
	if got := pairs(all); !slices.Equal(got, p.row) {
		t.Error("iterator made ahead of a move", got)
	}
}

// Whatever is done to the row meanwhile, an iteration ends and does not
// panic, and leaves a row that is whole.
func TestIterationsOverAChangingRow(t *testing.T) {
	const enough = 1000
	type change func(c *Chain[string], h int)
	changes := map[string]change{
		"Last":               func(c *Chain[string], h int) { c.Last("x") },
		"First":              func(c *Chain[string], h int) { c.First("x") },
		"Ahead":              func(c *Chain[string], h int) { c.Ahead(h, "x") },
		"both ends":          func(c *Chain[string], h int) { c.Last("x"); c.First("x") },
		"Remove":             func(c *Chain[string], h int) { c.Remove(h) },
		"Remove the next":    func(c *Chain[string], h int) { c.Remove(h + 1) },
		"Remove the former":  func(c *Chain[string], h int) { c.Remove(h - 1) },
		"Remove and Last":    func(c *Chain[string], h int) { c.Remove(h); c.Last("x") },
		"Remove and First":   func(c *Chain[string], h int) { c.Remove(h); c.First("x") },
		"Move to the front":  func(c *Chain[string], h int) { c.Move(h, 1) },
		"Move the first":     func(c *Chain[string], h int) { c.Move(1, h) },
		"Move over the next": func(c *Chain[string], h int) { c.Move(h+1, h) },
		"Move to the end":    func(c *Chain[string], h int) { c.Move(h, 5); c.Move(5, h) },
		"Set":                func(c *Chain[string], h int) { c.Set(h, "x") },
		"Remove all": func(c *Chain[string], h int) {
			for g := range 6 {
				c.Remove(g)
			}
		},
		"replace all": func(c *Chain[string], h int) {
			for g := range 100 {
				c.Remove(g)
			}
			c.Last("x")
			c.First("y")
		},
	}
	for name, do := range changes {
		for _, backwards := range []bool{false, true} {
			c, _ := of("a", "b", "c", "d", "e")
			seq := c.All()
			if backwards {
				seq = c.Back()
			}
			step := 0
			for h := range seq {
				if step++; step > enough {
					t.Fatal(name, backwards, "does not end")
				}
				do(c, h)
			}
			sound(t, c, name)
		}
	}
}

// sound checks that a row is the same in both directions and by Get and Len.
func sound(t *testing.T, c *Chain[string], after string) {
	t.Helper()
	all, back := pairs(c.All()), pairs(c.Back())
	slices.Reverse(back)
	if !slices.Equal(all, back) || len(all) != c.Len() {
		t.Error(after, all, back, c.Len())
	}
	for _, x := range all {
		if v, ok := c.Get(x.handle); v != x.value || !ok {
			t.Error(after, x, v, ok)
		}
	}
}

func TestNilChain(t *testing.T) {
	var c *Chain[string]
	for _, h := range []int{0, 1, -1, math.MaxInt, math.MinInt} {
		if n, e := c.Ahead(h, "x"); n != 0 || e != api.ErrArg {
			t.Error("Ahead", n, e)
		}
		if v, ok := c.Remove(h); v != "" || ok {
			t.Error("Remove", v, ok)
		}
		for _, to := range []int{0, 1, 2, -1} {
			if e := c.Move(h, to); e != api.ErrArg {
				t.Error("Move", h, to, e)
			}
		}
		if v, ok := c.Get(h); v != "" || ok {
			t.Error("Get", v, ok)
		}
		if c.Set(h, "x") {
			t.Error("Set")
		}
	}
	if h := c.Last("x"); h != 0 {
		t.Error("Last", h)
	}
	if h := c.First("x"); h != 0 {
		t.Error("First", h)
	}
	if c.Len() != 0 {
		t.Error("Len", c.Len())
	}
	for h, v := range c.All() {
		t.Error("All", h, v)
	}
	for h, v := range c.Back() {
		t.Error("Back", h, v)
	}
}

// mixed plays one call, drawn at random, on a chain and on the list.
func mixed[T comparable](t *testing.T, r *rand.Rand, c *Chain[T], p *plain[T], v T) string {
	t.Helper()
	// From -1 to given+1: members, removed ones and handles that never were.
	h, g := r.Intn(p.given+3)-1, r.Intn(p.given+3)-1
	switch r.Intn(8) {
	case 0:
		if got, wanted := c.Last(v), p.insert(len(p.row), v); got != wanted {
			t.Fatal("Last", got, wanted)
		}
		return "Last"
	case 1:
		if got, wanted := c.First(v), p.insert(0, v); got != wanted {
			t.Fatal("First", got, wanted)
		}
		return "First"
	case 2:
		got, e := c.Ahead(h, v)
		if wanted, f := p.ahead(h, v); got != wanted || e != f {
			t.Fatal("Ahead", h, got, e, wanted, f)
		}
		return "Ahead"
	case 3, 4:
		got, ok := c.Remove(h)
		if wanted, there := p.remove(h); got != wanted || ok != there {
			t.Fatal("Remove", h, got, ok, wanted, there)
		}
		return "Remove"
	case 5, 6:
		if e, f := c.Move(h, g), p.move(h, g); e != f {
			t.Fatal("Move", h, g, e, f)
		}
		return "Move"
	}
	if got, wanted := c.Set(h, v), p.set(h, v); got != wanted {
		t.Fatal("Set", h, got, wanted)
	}
	return "Set"
}

func TestMixedCalls(t *testing.T) {
	for seed := range int64(40) {
		r := rand.New(rand.NewSource(seed))
		c, p := New[int](), &plain[int]{}
		for range 400 {
			check(t, c, p, mixed(t, r, c, p, r.Int()))
		}
	}
}

// A row that many calls have made long, looked at whole only now and then.
func TestMixedCallsOnALongRow(t *testing.T) {
	r := rand.New(rand.NewSource(7))
	c, p := New[string](), &plain[string]{}
	for range 2000 {
		c.Last("")
		p.insert(len(p.row), "")
	}
	for i := range 6000 {
		after := mixed(t, r, c, p, strconv.Itoa(i))
		if i%500 == 0 {
			check(t, c, p, after)
		}
	}
	check(t, c, p, "long row")
}

func TestMembersOfOtherTypes(t *testing.T) {
	r := rand.New(rand.NewSource(3))
	type stake struct {
		id     int
		amount uint64
	}
	structs, p := New[stake](), &plain[stake]{}
	arrays, q := New[[3]byte](), &plain[[3]byte]{}
	bools, s := New[bool](), &plain[bool]{}
	faces, u := New[any](), &plain[any]{}
	for i := range 300 {
		check(t, structs, p, mixed(t, r, structs, p, stake{i, r.Uint64()}))
		check(t, arrays, q, mixed(t, r, arrays, q, [3]byte{byte(i), 1, 2}))
		check(t, bools, s, mixed(t, r, bools, s, i%2 == 0))
		check(t, faces, u, mixed(t, r, faces, u, any([]any{i, nil, "x"}[i%3])))
	}
}

// Types that can't be held against each other are members like any other.
func TestMembersOfTypesWithoutEquality(t *testing.T) {
	lists := New[[]int]()
	lists.Last([]int{1})
	lists.First(nil)
	if v, ok := lists.Get(1); !ok || !slices.Equal(v, []int{1}) {
		t.Error(v, ok)
	}
	if v, ok := lists.Remove(2); v != nil || !ok {
		t.Error(v, ok)
	}
	functions := New[func() int]()
	functions.Last(func() int { return 7 })
	for h, f := range functions.All() {
		if h != 1 || f() != 7 {
			t.Error(h)
		}
	}
	chains := New[*Chain[int]]()
	chains.Last(New[int]())
	inner, _ := chains.Get(1)
	if inner.Last(5) != 1 || inner.Len() != 1 || chains.Len() != 1 {
		t.Error("chain of chains")
	}
}

// What a chain keeps doesn't grow with the handles that it gave away.
func TestRemovedMembersAreNotKept(t *testing.T) {
	c := New[int]()
	for i := 1; i <= 100000; i++ {
		h := c.Last(i)
		if v, ok := c.Remove(h); h != i || v != i || !ok {
			t.Fatal(h, v, ok)
		}
	}
	if c.Len() != 0 || len(c.members) != 0 {
		t.Error(c.Len(), len(c.members))
	}
}
