package voters

import (
	"iter"
	"math"
	"math/rand"
	"slices"
	"strconv"
	"testing"

	"psephos/api"
)

const most = math.MaxUint64

// one is a voter of a plain row.
type one struct {
	id    int
	stake uint64
}

// full is a bag that is not empty.
type full struct {
	number int
	ids    []int
}

// plain is the chapter's bags as lists that are gone through for each call.
type plain struct {
	thresholds []uint64
	rows       [][]one
}

func plainOf(thresholds []uint64) *plain {
	return &plain{slices.Clone(thresholds), make([][]one, len(thresholds)+1)}
}

func (p *plain) proper(stake uint64) int {
	for i, threshold := range p.thresholds {
		if threshold >= stake {
			return i
		}
	}
	return len(p.thresholds)
}

// place returns the bag of a voter and its place there, or -1 for both.
func (p *plain) place(id int) (int, int) {
	for bag, row := range p.rows {
		for i, x := range row {
			if x.id == id {
				return bag, i
			}
		}
	}
	return -1, -1
}

func (p *plain) has(id int) bool {
	bag, _ := p.place(id)
	return bag >= 0
}

func (p *plain) drop(id int) one {
	bag, i := p.place(id)
	x := p.rows[bag][i]
	p.rows[bag] = slices.Delete(p.rows[bag], i, i+1)
	return x
}

func (p *plain) last(x one) {
	bag := p.proper(x.stake)
	p.rows[bag] = append(p.rows[bag], x)
}

func (p *plain) rebag(id int) api.Errno {
	bag, i := p.place(id)
	if bag == p.proper(p.rows[bag][i].stake) {
		return api.ErrState
	}
	p.last(p.drop(id))
	return api.OK
}

func (p *plain) front(id, of int) api.Errno {
	if !p.has(of) {
		return api.ErrNone
	}
	bag, i := p.place(id)
	other, j := p.place(of)
	if id == of || bag != other || !(p.rows[bag][i].stake > p.rows[other][j].stake) {
		return api.ErrState
	}
	x := p.drop(id)
	_, j = p.place(of)
	p.rows[bag] = slices.Insert(p.rows[bag], j, x)
	return api.OK
}

// order lists all voters, the greatest bag first.
func (p *plain) order() []one {
	var list []one
	for bag := len(p.rows) - 1; bag >= 0; bag-- {
		list = append(list, p.rows[bag]...)
	}
	return list
}

func (p *plain) filled() []full {
	var list []full
	for bag := len(p.rows) - 1; bag >= 0; bag-- {
		if len(p.rows[bag]) > 0 {
			list = append(list, full{bag, ids(p.rows[bag])})
		}
	}
	return list
}

func ids(row []one) []int {
	var list []int
	for _, x := range row {
		list = append(list, x.id)
	}
	return list
}

func all(seq iter.Seq2[int, uint64]) []one {
	var list []one
	for id, stake := range seq {
		list = append(list, one{id, stake})
	}
	return list
}

func allBags(seq iter.Seq2[int, []int]) []full {
	var list []full
	for bag, ids := range seq {
		list = append(list, full{bag, ids})
	}
	return list
}

func sameBags(a, b []full) bool {
	return slices.EqualFunc(a, b, func(x, y full) bool { return x.number == y.number && slices.Equal(x.ids, y.ids) })
}

// call is one call that changes voters; what it does not need stays 0.
type call struct {
	name   string
	id, of int
	stake  uint64
}

func (c call) String() string {
	return c.name + " id " + strconv.Itoa(c.id) + " of " + strconv.Itoa(c.of) + " stake " + strconv.FormatUint(c.stake, 10)
}

func insert(id int, stake uint64) call { return call{name: "Insert", id: id, stake: stake} }
func remove(id int) call               { return call{name: "Remove", id: id} }
func update(id int, stake uint64) call { return call{name: "Update", id: id, stake: stake} }
func rebag(id int) call                { return call{name: "Rebag", id: id} }
func front(id, of int) call            { return call{name: "Front", id: id, of: of} }

// do plays the call on the voters.
func (c call) do(v *Voters) api.Errno {
	switch c.name {
	case "Insert":
		return v.Insert(c.id, c.stake)
	case "Remove":
		return v.Remove(c.id)
	case "Update":
		return v.Update(c.id, c.stake)
	case "Rebag":
		return v.Rebag(c.id)
	case "Front":
		return v.Front(c.id, c.of)
	}
	panic(c.name)
}

// plainly plays the call on the plain bags.
func (c call) plainly(p *plain) api.Errno {
	if p.has(c.id) != (c.name != "Insert") {
		if c.name == "Insert" {
			return api.ErrExists
		}
		return api.ErrNone
	}
	switch c.name {
	case "Insert":
		p.last(one{c.id, c.stake})
	case "Remove":
		p.drop(c.id)
	case "Update":
		bag, i := p.place(c.id)
		p.rows[bag][i].stake = c.stake
	case "Rebag":
		return p.rebag(c.id)
	case "Front":
		return p.front(c.id, c.of)
	}
	return api.OK
}

// absent lists numbers of which few rows have any.
func absent() []int {
	return []int{math.MinInt, math.MinInt + 1, -7777, -1, 0, 7777, math.MaxInt - 1, math.MaxInt}
}

// check holds all that voters tell against the plain bags.
func check(t *testing.T, v *Voters, p *plain, after string) {
	t.Helper()
	order := p.order()
	if v.Len() != len(order) {
		t.Fatalf("%s: Len %d, wanted %d", after, v.Len(), len(order))
	}
	if got := all(v.All()); !slices.Equal(got, order) {
		t.Fatalf("%s: All %v, wanted %v", after, got, order)
	}
	if got := allBags(v.Bags()); !sameBags(got, p.filled()) {
		t.Fatalf("%s: Bags %v, wanted %v", after, got, p.filled())
	}
	for _, n := range []int{-1, 0, 1, 2, len(order) / 2, len(order) - 1, len(order), len(order) + 1} {
		wanted := ids(order[:max(0, min(n, len(order)))])
		if got := v.Take(n); !slices.Equal(got, wanted) {
			t.Fatalf("%s: Take(%d) %v, wanted %v", after, n, got, wanted)
		}
	}
	for _, id := range append(absent(), ids(order)...) {
		checkOne(t, v, p, id, after)
	}
}

func checkOne(t *testing.T, v *Voters, p *plain, id int, after string) {
	t.Helper()
	wantBag, wantStake, there := 0, uint64(0), p.has(id)
	if there {
		bag, i := p.place(id)
		wantBag, wantStake = bag, p.rows[bag][i].stake
	}
	if bag, ok := v.Bag(id); bag != wantBag || ok != there {
		t.Fatalf("%s: Bag(%d) %d %t, wanted %d %t", after, id, bag, ok, wantBag, there)
	}
	if stake, ok := v.Stake(id); stake != wantStake || ok != there {
		t.Fatalf("%s: Stake(%d) %d %t, wanted %d %t", after, id, stake, ok, wantStake, there)
	}
}

// checkCall plays the call on both and holds them against each other.
func checkCall(t *testing.T, v *Voters, p *plain, c call) api.Errno {
	t.Helper()
	e, wanted := c.do(v), c.plainly(p)
	if e != wanted {
		t.Fatalf("%v: %d, wanted %d", c, e, wanted)
	}
	check(t, v, p, c.String())
	return e
}

// want plays the calls on both; the answer to each must be this.
func want(t *testing.T, v *Voters, p *plain, wanted api.Errno, list ...call) {
	t.Helper()
	for _, c := range list {
		if e := checkCall(t, v, p, c); e != wanted {
			t.Fatalf("%v: %d, wanted %d", c, e, wanted)
		}
	}
}

// wantOrder holds the order of all voters against numbers spelt out.
func wantOrder(t *testing.T, v *Voters, wanted ...int) {
	t.Helper()
	if got := ids(all(v.All())); !slices.Equal(got, wanted) {
		t.Fatalf("order %v, wanted %v", got, wanted)
	}
}

func wantBag(t *testing.T, v *Voters, id, wanted int) {
	t.Helper()
	if bag, ok := v.Bag(id); bag != wanted || !ok {
		t.Fatalf("Bag(%d) %d %t, wanted %d", id, bag, ok, wanted)
	}
}

// begun returns voters and plain bags with these thresholds.
func begun(t *testing.T, thresholds ...uint64) (*Voters, *plain) {
	t.Helper()
	v, e := New(thresholds)
	if e != api.OK || v == nil {
		t.Fatalf("New(%d): %d", thresholds, e)
	}
	p := plainOf(thresholds)
	check(t, v, p, "New")
	return v, p
}

// stocked returns voters in three of four bags: 7 and 8 in the bag 3; none in
// 2; 4, 5 and 6 in 1; 1, 2 and 3 in 0.
func stocked(t *testing.T) (*Voters, *plain) {
	t.Helper()
	v, p := begun(t, 10, 20, 30)
	want(t, v, p, api.OK,
		insert(1, 3), insert(2, 5), insert(3, 5), insert(4, 11), insert(5, 20),
		insert(6, 15), insert(7, 31), insert(8, most))
	wantOrder(t, v, 7, 8, 4, 5, 6, 1, 2, 3)
	return v, p
}

func ascending(n int, first, step uint64) []uint64 {
	list := make([]uint64, n)
	for i := range list {
		list[i] = first + uint64(i)*step
	}
	return list
}

func TestExample(t *testing.T) {
	v, p := begun(t, 10)
	want(t, v, p, api.OK, insert(1, 5), insert(2, 50), insert(3, 6))
	wantOrder(t, v, 2, 1, 3)
	want(t, v, p, api.OK, front(3, 1))
	wantOrder(t, v, 2, 3, 1)
}

func TestNew(t *testing.T) {
	for _, l := range [][]uint64{
		nil, {}, {0}, {most}, {0, most}, {most - 1, most}, {10, 20},
		ascending(api.MaxBags-1, 5, 5), ascending(api.MaxBags, 5, 5), ascending(api.MaxBags, 0, 1),
	} {
		v, p := begun(t, l...)
		for i, stake := range []uint64{0, 1, 10, 11, 20, 21, most - 1, most} {
			want(t, v, p, api.OK, insert(i, stake))
		}
	}
}

func TestNewWrong(t *testing.T) {
	for _, l := range [][]uint64{
		{0, 0}, {5, 5}, {most, most}, {1, 0}, {most, 0}, {20, 10}, {5, 6, 6}, {5, 5, 6}, {5, 7, 6},
		make([]uint64, api.MaxBags), ascending(api.MaxBags+1, 5, 5), ascending(3000, 5, 5),
		append(ascending(api.MaxBags-1, 1, 1), 99),
	} {
		if v, e := New(l); v != nil || e != api.ErrArg {
			t.Errorf("New(%d): %v, %d", l, v, e)
		}
	}
}

// Nil and empty thresholds mean the same: one bag for all stakes.
func TestWithoutThresholds(t *testing.T) {
	for _, l := range [][]uint64{nil, {}} {
		v, e := New(l)
		if e != api.OK {
			t.Fatal(e)
		}
		p := plainOf(l)
		want(t, v, p, api.OK, insert(1, 0), insert(2, most), insert(3, 7))
		want(t, v, p, api.OK, update(1, most))
		want(t, v, p, api.ErrState, rebag(1), rebag(2), rebag(3))
		wantOrder(t, v, 1, 2, 3)
		want(t, v, p, api.OK, front(2, 3))
		want(t, v, p, api.ErrState, front(2, 1))
	}
}

// R3: the thresholds are neither changed, nor kept.
func TestThresholdsStay(t *testing.T) {
	backing := []uint64{10, 20, 30, 7, 3, 8}
	before := slices.Clone(backing)
	v, e := New(backing[:3])
	if e != api.OK {
		t.Fatal(e)
	}
	p := plainOf(backing[:3])
	want(t, v, p, api.OK, insert(1, 15))
	if !slices.Equal(backing, before) {
		t.Errorf("thresholds changed to %d", backing)
	}
	for i := range backing {
		backing[i] = most - uint64(i)
	}
	want(t, v, p, api.OK, insert(2, 15), insert(3, 25), insert(4, 35), insert(5, 5), update(1, 31), rebag(1))
	want(t, v, p, api.ErrState, rebag(2), rebag(3))
	wantBag(t, v, 1, 3)
	wantBag(t, v, 5, 0)
}

func TestVotersAreApart(t *testing.T) {
	l := []uint64{10}
	a, _ := New(l)
	b, q := begun(t, l...)
	a.Insert(1, 5)
	check(t, b, q, "Insert into the other")
	want(t, b, q, api.OK, insert(1, 50), insert(2, 3))
	a.Remove(1)
	check(t, b, q, "Remove from the other")
	if a.Len() != 0 {
		t.Error(a.Len())
	}
}

func TestZeroVoters(t *testing.T) {
	var v Voters
	p := plainOf(nil)
	check(t, &v, p, "zero")
	want(t, &v, p, api.ErrNone, remove(1), update(1, 2), rebag(1), front(1, 2))
	want(t, &v, p, api.OK, insert(1, 5), insert(2, most), front(2, 1))
	wantOrder(t, &v, 2, 1)
}

// At each threshold of the longest list: the stake 0, one less than it, it,
// one more.
func TestInsertAtEachThreshold(t *testing.T) {
	l := ascending(api.MaxBags, 10, 10)
	v, p := begun(t, l...)
	want(t, v, p, api.OK, insert(-1, 0), insert(-2, most))
	wantBag(t, v, -1, 0)
	wantBag(t, v, -2, api.MaxBags)
	for i, threshold := range l {
		for less := range 3 {
			id := 3*i + less
			if e := v.Insert(id, threshold+1-uint64(less)); e != api.OK {
				t.Fatal(id, e)
			}
			insert(id, threshold+1-uint64(less)).plainly(p)
		}
		wantBag(t, v, 3*i, i+1)
		wantBag(t, v, 3*i+1, i)
		wantBag(t, v, 3*i+2, i)
	}
	check(t, v, p, "Insert at each threshold")
}

func TestInsertAtEdgesOfAmounts(t *testing.T) {
	v, p := begun(t, 0, 1, most-1, most)
	want(t, v, p, api.OK, insert(1, 0), insert(2, 1), insert(3, 2), insert(4, most-1), insert(5, most))
	for id, bag := range []int{0, 1, 2, 2, 3} {
		wantBag(t, v, id+1, bag)
	}
	wantOrder(t, v, 5, 3, 4, 2, 1)
}

func TestInsertIsLastOfItsBag(t *testing.T) {
	v, p := stocked(t)
	want(t, v, p, api.OK, insert(9, 20), insert(10, most), insert(11, 10), insert(12, 30))
	wantOrder(t, v, 7, 8, 10, 12, 4, 5, 6, 9, 1, 2, 3, 11)
}

func TestInsertAnyNumber(t *testing.T) {
	v, p := begun(t, 10)
	for i, id := range absent() {
		want(t, v, p, api.OK, insert(id, uint64(i)*3))
	}
	for i, id := range absent() {
		want(t, v, p, api.ErrExists, insert(id, uint64(i)))
	}
	want(t, v, p, api.OK, front(math.MinInt+1, math.MinInt), update(math.MaxInt, 0), rebag(math.MaxInt), remove(math.MinInt), remove(math.MaxInt))
}

func TestInsertOfOneThatExists(t *testing.T) {
	v, p := stocked(t)
	for id := 1; id <= 8; id++ {
		for _, stake := range []uint64{0, 5, 11, 20, 21, most} {
			want(t, v, p, api.ErrExists, insert(id, stake))
		}
	}
	want(t, v, p, api.OK, update(1, 25))
	want(t, v, p, api.ErrExists, insert(1, 25), insert(1, 3))
}

func TestInsertAfterRemove(t *testing.T) {
	v, p := stocked(t)
	want(t, v, p, api.OK, remove(4), insert(4, 11))
	wantOrder(t, v, 7, 8, 5, 6, 4, 1, 2, 3)
	want(t, v, p, api.OK, remove(4), insert(4, 30))
	wantOrder(t, v, 7, 8, 4, 5, 6, 1, 2, 3)
	want(t, v, p, api.ErrExists, insert(4, 30))
}

// The first, a middle, the last and the only voter of a bag.
func TestRemoveEach(t *testing.T) {
	for size := 1; size <= 5; size++ {
		for gone := 1; gone <= size; gone++ {
			v, p := begun(t, 10, 20)
			want(t, v, p, api.OK, insert(100, 5), insert(200, 50))
			for id := 1; id <= size; id++ {
				want(t, v, p, api.OK, insert(id, 15))
			}
			want(t, v, p, api.OK, remove(gone))
			want(t, v, p, api.ErrNone, remove(gone), update(gone, 5), rebag(gone), front(gone, 100), front(100, gone))
			want(t, v, p, api.OK, insert(300, 15), insert(gone, 15))
		}
	}
}

func TestRemoveAll(t *testing.T) {
	v, p := stocked(t)
	want(t, v, p, api.OK, remove(7), remove(8), remove(5), remove(1), remove(3), remove(2), remove(6), remove(4))
	want(t, v, p, api.OK, insert(3, 15), insert(1, 15))
	wantOrder(t, v, 3, 1)
}

// A voter that Update left in a wrong bag is removed from where it is.
func TestRemoveFromAWrongBag(t *testing.T) {
	v, p := stocked(t)
	want(t, v, p, api.OK, update(5, 2), update(1, 40), remove(5), remove(1))
	wantOrder(t, v, 7, 8, 4, 6, 2, 3)
}

func TestErrNone(t *testing.T) {
	v, p := stocked(t)
	for _, id := range append(absent(), 9) {
		want(t, v, p, api.ErrNone, remove(id), update(id, 0), update(id, 15), update(id, most), rebag(id))
		// Ahead of ErrState, for equal numbers as well.
		want(t, v, p, api.ErrNone, front(id, 1), front(1, id), front(id, id), front(id, 9), front(9, id))
	}
	empty, q := begun(t, 10)
	for _, id := range absent() {
		want(t, empty, q, api.ErrNone, remove(id), update(id, 15), rebag(id), front(id, 1), front(id, id))
	}
}

func TestUpdateKeepsThePosition(t *testing.T) {
	for id := 1; id <= 8; id++ {
		v, p := stocked(t)
		before, _ := v.Stake(id)
		for _, stake := range []uint64{0, 10, 11, 20, 21, 30, 31, most, before} {
			want(t, v, p, api.OK, update(id, stake))
			wantOrder(t, v, 7, 8, 4, 5, 6, 1, 2, 3)
			want(t, v, p, api.OK, update(id, stake))
		}
		want(t, v, p, api.ErrState, rebag(id))
	}
}

func TestRebagWhereItBelongs(t *testing.T) {
	v, p := stocked(t)
	for id := 1; id <= 8; id++ {
		want(t, v, p, api.ErrState, rebag(id))
	}
	// Another stake of the same bag, or there and back.
	want(t, v, p, api.OK, update(4, 20), update(6, 50), update(6, 12))
	want(t, v, p, api.ErrState, rebag(4), rebag(6))
	wantOrder(t, v, 7, 8, 4, 5, 6, 1, 2, 3)
}

func TestRebag(t *testing.T) {
	v, p := stocked(t)
	// Into the bag that is empty, then behind the one that is there.
	want(t, v, p, api.OK, update(5, 21), rebag(5), update(1, 30))
	wantOrder(t, v, 7, 8, 5, 4, 6, 1, 2, 3)
	want(t, v, p, api.OK, rebag(1))
	wantOrder(t, v, 7, 8, 5, 1, 4, 6, 2, 3)
	want(t, v, p, api.ErrState, rebag(5), rebag(1))
	// Down, behind others; and back, behind those that were behind it.
	want(t, v, p, api.OK, update(7, 0), rebag(7))
	wantOrder(t, v, 8, 5, 1, 4, 6, 2, 3, 7)
	want(t, v, p, api.OK, update(7, 31), rebag(7))
	wantOrder(t, v, 8, 7, 5, 1, 4, 6, 2, 3)
	// The bag 0 is emptied.
	want(t, v, p, api.OK, update(2, 11), update(3, 20), rebag(3), rebag(2))
	wantOrder(t, v, 8, 7, 5, 1, 4, 6, 3, 2)
	wantBag(t, v, 2, 1)
}

func TestRebagByTheSmallestStep(t *testing.T) {
	v, p := begun(t, 10)
	want(t, v, p, api.OK, insert(1, 10), insert(2, 11), insert(3, 10))
	want(t, v, p, api.OK, update(1, 11), rebag(1))
	wantOrder(t, v, 2, 1, 3)
	want(t, v, p, api.OK, update(2, 10), rebag(2))
	wantOrder(t, v, 1, 3, 2)
}

// Each voter before each other one: each way of moving is among them, of
// neighbours, of the last one before the first, and the refused ones.
func TestFrontEach(t *testing.T) {
	for size := 1; size <= 5; size++ {
		for turn := range size {
			for id := 1; id <= size; id++ {
				for of := 1; of <= size; of++ {
					v, p := begun(t, 10, 20)
					want(t, v, p, api.OK, insert(100, 5), insert(200, 50))
					for i := 1; i <= size; i++ {
						want(t, v, p, api.OK, insert(i, 11+uint64((i+turn)%size)))
					}
					checkCall(t, v, p, front(id, of))
					want(t, v, p, api.OK, insert(300, 15))
				}
			}
		}
	}
}

func TestFrontSpelledOut(t *testing.T) {
	for _, x := range []struct {
		id, of int
		e      api.Errno
		row    []int
	}{
		{5, 1, api.OK, []int{5, 1, 2, 3, 4}},
		{5, 4, api.OK, []int{1, 2, 3, 5, 4}},
		{5, 2, api.OK, []int{1, 5, 2, 3, 4}},
		{1, 2, api.OK, []int{1, 2, 3, 4, 5}},
		{1, 4, api.OK, []int{2, 3, 1, 4, 5}},
		{4, 3, api.OK, []int{1, 2, 4, 3, 5}},
		{4, 2, api.OK, []int{1, 4, 2, 3, 5}},
		{1, 5, api.ErrState, []int{1, 2, 3, 4, 5}},
		{2, 3, api.ErrState, []int{1, 2, 3, 4, 5}},
		{3, 2, api.ErrState, []int{1, 2, 3, 4, 5}},
		{2, 1, api.ErrState, []int{1, 2, 3, 4, 5}},
		{3, 3, api.ErrState, []int{1, 2, 3, 4, 5}},
	} {
		v, p := begun(t, 100)
		// The stakes of 2 and 3 are equal.
		want(t, v, p, api.OK, insert(1, 60), insert(2, 20), insert(3, 20), insert(4, 30), insert(5, 70))
		want(t, v, p, x.e, front(x.id, x.of))
		wantOrder(t, v, x.row...)
	}
}

func TestFrontBySmallestDifference(t *testing.T) {
	v, p := begun(t)
	want(t, v, p, api.OK, insert(1, 0), insert(2, 1), insert(3, most-1), insert(4, most))
	want(t, v, p, api.OK, front(4, 3), front(2, 1))
	want(t, v, p, api.ErrState, front(3, 4), front(1, 2), front(1, 3))
	want(t, v, p, api.OK, front(3, 2))
	wantOrder(t, v, 3, 2, 1, 4)
}

func TestFrontOfDifferentBags(t *testing.T) {
	v, p := stocked(t)
	want(t, v, p, api.ErrState, front(4, 1), front(7, 4), front(8, 1), front(1, 8), front(4, 7))
	// The bag that a voter is in tells, not the one that its stake belongs to.
	want(t, v, p, api.OK, update(2, 11))
	want(t, v, p, api.ErrState, front(5, 2), front(2, 4))
	want(t, v, p, api.OK, front(2, 1))
	wantOrder(t, v, 7, 8, 4, 5, 6, 2, 1, 3)
}

func TestFrontAgain(t *testing.T) {
	v, p := stocked(t)
	want(t, v, p, api.OK, front(6, 4), front(6, 4), front(5, 6), front(5, 4))
	wantOrder(t, v, 7, 8, 6, 5, 4, 1, 2, 3)
}

func TestTake(t *testing.T) {
	v, _ := stocked(t)
	order := []int{7, 8, 4, 5, 6, 1, 2, 3}
	for n := 1; n <= len(order); n++ {
		if got := v.Take(n); !slices.Equal(got, order[:n]) {
			t.Error(n, got)
		}
	}
	for _, n := range []int{9, 100, math.MaxInt - 1, math.MaxInt} {
		if got := v.Take(n); !slices.Equal(got, order) {
			t.Error(n, got)
		}
	}
	empty, _ := begun(t, 10)
	for _, n := range []int{math.MinInt, -2, -1, 0, 1, math.MaxInt} {
		if got := empty.Take(n); len(got) != 0 {
			t.Error(n, got)
		}
		if got := v.Take(n); n < 1 && len(got) != 0 {
			t.Error(n, got)
		}
	}
}

func TestBags(t *testing.T) {
	v, p := stocked(t)
	wanted := []full{{3, []int{7, 8}}, {1, []int{4, 5, 6}}, {0, []int{1, 2, 3}}}
	if got := allBags(v.Bags()); !sameBags(got, wanted) {
		t.Error(got)
	}
	want(t, v, p, api.OK, remove(4), remove(6), remove(5))
	wanted = slices.Delete(wanted, 1, 2)
	if got := allBags(v.Bags()); !sameBags(got, wanted) {
		t.Error(got)
	}
	want(t, v, p, api.OK, update(3, 30), rebag(3))
	wanted = []full{{3, []int{7, 8}}, {2, []int{3}}, {0, []int{1, 2}}}
	if got := allBags(v.Bags()); !sameBags(got, wanted) {
		t.Error(got)
	}
}

// Left after each number of steps, and begun anew, by the same iterator and by
// another one.
func TestIterationsLeftAnywhere(t *testing.T) {
	v, p := stocked(t)
	seq, bags := v.All(), v.Bags()
	for n := 1; n <= v.Len(); n++ {
		for _, s := range []iter.Seq2[int, uint64]{seq, v.All()} {
			var got []one
			for id, stake := range s {
				got = append(got, one{id, stake})
				if len(got) == n {
					break
				}
			}
			if !slices.Equal(got, p.order()[:n]) {
				t.Error(n, got)
			}
		}
	}
	for n := 1; n <= len(p.filled()); n++ {
		for _, s := range []iter.Seq2[int, []int]{bags, v.Bags()} {
			var got []full
			for bag, ids := range s {
				got = append(got, full{bag, ids})
				if len(got) == n {
					break
				}
			}
			if !sameBags(got, p.filled()[:n]) {
				t.Error(n, got)
			}
		}
	}
	if !slices.Equal(all(seq), p.order()) || !sameBags(allBags(bags), p.filled()) {
		t.Error("not the same when begun anew", all(seq), allBags(bags))
	}
	check(t, v, p, "iterations left")
}

func TestIterationsNested(t *testing.T) {
	v, p := stocked(t)
	seq, bags := v.All(), v.Bags()
	for id, stake := range seq {
		checkOne(t, v, p, id, "nested")
		if !slices.Equal(all(seq), p.order()) || !sameBags(allBags(bags), p.filled()) {
			t.Fatal("nested in", id, stake, all(seq), allBags(bags))
		}
	}
	for bag := range bags {
		if !slices.Equal(all(seq), p.order()) || !sameBags(allBags(bags), p.filled()) {
			t.Fatal("nested in", bag, all(seq), allBags(bags))
		}
	}
}

// What a loop does to the voters neither makes it endless nor harms them.
func TestIterationsOverChangingVoters(t *testing.T) {
	changes := [][]call{
		{insert(9, 15)},
		{remove(1)}, {remove(4)}, {remove(7)}, {remove(8)}, {remove(3)},
		{update(7, 5), rebag(7)}, {update(4, 40), rebag(4)}, {update(3, 25), rebag(3)},
		{front(6, 4)}, {front(3, 1)}, {front(8, 7)},
		{remove(7), remove(8), remove(4), remove(5), remove(6), remove(1), remove(2), remove(3)},
	}
	for _, list := range changes {
		v, p := stocked(t)
		before, steps := p.order(), 0
		for id, stake := range v.All() {
			if before[steps] != (one{id, stake}) {
				t.Fatal(list, steps, id, stake)
			}
			steps++
			for _, c := range list {
				checkCall(t, v, p, c)
			}
		}
		if steps != len(before) {
			t.Error(list, "steps of All", steps)
		}
		v, p = stocked(t)
		bags, steps := p.filled(), 0
		for bag, ids := range v.Bags() {
			if bags[steps].number != bag || !slices.Equal(bags[steps].ids, ids) {
				t.Fatal(list, steps, bag, ids)
			}
			steps++
			for _, c := range list {
				checkCall(t, v, p, c)
			}
		}
		if steps != len(bags) {
			t.Error(list, "steps of Bags", steps)
		}
	}
}

// A loop that inserts one more at each step ends.
func TestIterationOverGrowingVoters(t *testing.T) {
	v, p := stocked(t)
	next := 100
	for range v.All() {
		want(t, v, p, api.OK, insert(next, 5))
		next++
	}
	for range v.Bags() {
		want(t, v, p, api.OK, insert(next, 5))
		next++
	}
}

// spoil writes over all of a list, with its spare capacity.
func spoil(list []int) {
	list = list[:cap(list)]
	for i := range list {
		list[i] = -5
	}
}

func TestResultsAreNewMemory(t *testing.T) {
	v, p := stocked(t)
	for n := 1; n <= 9; n++ {
		kept := v.Take(n)
		wanted := slices.Clone(kept)
		spoil(v.Take(n))
		if !slices.Equal(kept, wanted) {
			t.Error("two Takes share memory", kept)
		}
		spoil(kept)
		check(t, v, p, "Take spoilt")
	}
	kept := allBags(v.Bags())
	for _, ids := range v.Bags() {
		spoil(ids)
		check(t, v, p, "Bags spoilt meanwhile")
	}
	if !sameBags(kept, p.filled()) {
		t.Error("two iterations of Bags share memory", kept)
	}
	for i := range kept {
		spoil(kept[i].ids)
		if !sameBags(kept[i+1:], p.filled()[i+1:]) {
			t.Error("two bags share memory", kept)
		}
	}
	check(t, v, p, "Bags spoilt")
}

// What was returned stays as it is, whatever happens to the voters then.
func TestResultsStay(t *testing.T) {
	v, p := stocked(t)
	list, bags, wanted := v.Take(8), allBags(v.Bags()), p.filled()
	want(t, v, p, api.OK, front(6, 4), remove(7), insert(9, 31), update(1, 15), rebag(1))
	if !slices.Equal(list, []int{7, 8, 4, 5, 6, 1, 2, 3}) || !sameBags(bags, wanted) {
		t.Error(list, bags)
	}
}

func TestNilVoters(t *testing.T) {
	var v *Voters
	for _, id := range append(absent(), 1, 2) {
		for _, c := range []call{insert(id, 5), insert(id, most), remove(id), update(id, 5), rebag(id), front(id, 1), front(1, id), front(id, id)} {
			if e := c.do(v); e != api.ErrArg {
				t.Errorf("%v: %d", c, e)
			}
		}
		if bag, ok := v.Bag(id); bag != 0 || ok {
			t.Error("Bag", id, bag, ok)
		}
		if stake, ok := v.Stake(id); stake != 0 || ok {
			t.Error("Stake", id, stake, ok)
		}
		if list := v.Take(id); len(list) != 0 {
			t.Error("Take", id, list)
		}
	}
	if v.Len() != 0 {
		t.Error("Len", v.Len())
	}
	for id, stake := range v.All() {
		t.Error("All", id, stake)
	}
	for bag, ids := range v.Bags() {
		t.Error("Bags", bag, ids)
	}
}

// someStake returns a stake that is often at or near a threshold.
func someStake(r *rand.Rand, p *plain) uint64 {
	near := append([]uint64{0, 1, most - 1, most}, p.thresholds...)
	switch r.Intn(4) {
	case 0:
		return r.Uint64() >> r.Intn(64)
	case 1:
		return near[r.Intn(len(near))] + uint64(r.Intn(3)) - 1
	}
	return near[r.Intn(len(near))]
}

func someThresholds(r *rand.Rand) []uint64 {
	list := make([]uint64, r.Intn(6))
	for i := range list {
		list[i] = r.Uint64() >> r.Intn(64)
	}
	slices.Sort(list)
	return slices.Compact(list)
}

func someCall(r *rand.Rand, p *plain, numbers int) call {
	names := []string{"Insert", "Insert", "Remove", "Update", "Rebag", "Rebag", "Front", "Front", "Front"}
	c := call{name: names[r.Intn(len(names))], id: r.Intn(numbers) - 2, of: r.Intn(numbers) - 2, stake: someStake(r, p)}
	// Two of one bag, as Front would be refused too often else.
	if bag, i := p.place(c.id); bag >= 0 && c.name == "Front" && r.Intn(4) > 0 {
		row := p.rows[bag]
		c.of = row[r.Intn(len(row))].id
		if c.of == c.id {
			c.of = row[(i+1)%len(row)].id
		}
	}
	return c
}

func TestManyRows(t *testing.T) {
	r := rand.New(rand.NewSource(9))
	seen := map[string]map[api.Errno]int{}
	for range 300 {
		v, p := begun(t, someThresholds(r)...)
		numbers := 3 + r.Intn(20)
		for range 200 {
			c := someCall(r, p, numbers)
			if seen[c.name] == nil {
				seen[c.name] = map[api.Errno]int{}
			}
			seen[c.name][checkCall(t, v, p, c)]++
		}
	}
	// The rows must have met each answer that there is.
	for name, answers := range map[string][]api.Errno{
		"Insert": {api.OK, api.ErrExists},
		"Remove": {api.OK, api.ErrNone},
		"Update": {api.OK, api.ErrNone},
		"Rebag":  {api.OK, api.ErrNone, api.ErrState},
		"Front":  {api.OK, api.ErrNone, api.ErrState},
	} {
		for _, e := range answers {
			if seen[name][e] < 50 {
				t.Errorf("%s answered %d only %d times", name, e, seen[name][e])
			}
		}
	}
}

func TestManyVotersInManyBags(t *testing.T) {
	r := rand.New(rand.NewSource(99))
	v, p := begun(t, ascending(api.MaxBags, 10, 10)...)
	for id := range 1000 {
		c := insert(id-2, uint64(r.Intn(1050)))
		if e := c.do(v); e != api.OK || e != c.plainly(p) {
			t.Fatal(c, e)
		}
	}
	for i := range 5000 {
		c := someCall(r, p, 1000)
		if c.name == "Insert" || c.name == "Update" {
			c.stake = uint64(r.Intn(1050))
		}
		if e, wanted := c.do(v), c.plainly(p); e != wanted {
			t.Fatalf("%v: %d, wanted %d", c, e, wanted)
		}
		if i%500 == 0 {
			check(t, v, p, c.String())
		}
	}
	check(t, v, p, "many calls")
}

// R2: the same calls on two, with all asked between them on one.
func TestSameHistory(t *testing.T) {
	r := rand.New(rand.NewSource(999))
	for range 60 {
		l := someThresholds(r)
		v, p := begun(t, l...)
		twin, _ := New(l)
		for range 100 {
			c := someCall(r, p, 15)
			e := c.do(twin)
			if f := checkCall(t, v, p, c); e != f {
				t.Fatalf("%v: %d and %d", c, e, f)
			}
		}
		check(t, twin, p, "the twin")
	}
}
