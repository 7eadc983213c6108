package score

import (
	"math/big"
	"math/rand"
	"slices"
	"testing"

	"psephos/api"
)

const most = 1<<64 - 1

func natural(n uint64) *big.Int { return new(big.Int).SetUint64(n) }

func edge(voter, candidate int, weight uint64) api.Edge {
	return api.Edge{Voter: voter, Candidate: candidate, Weight: weight}
}

// plainSupports works the supports out anew for each place of the committee.
func plainSupports(committee []int, edges []api.Edge) ([]uint64, api.Errno) {
	var list []uint64
	for _, member := range committee {
		sum := new(big.Int)
		for _, one := range edges {
			if one.Candidate == member {
				sum.Add(sum, natural(one.Weight))
			}
		}
		if !sum.IsUint64() {
			return nil, api.ErrRange
		}
		list = append(list, sum.Uint64())
	}
	return list, api.OK
}

func plainOf(supports []uint64) (api.Score, api.Errno) {
	least, sum, squares := new(big.Int), new(big.Int), new(big.Int)
	for i, support := range supports {
		n := natural(support)
		if i == 0 || n.Cmp(least) < 0 {
			least = n
		}
		sum.Add(sum, n)
		squares.Add(squares, new(big.Int).Mul(n, n))
	}
	if sum.BitLen() > 64 || squares.BitLen() > 128 {
		return api.Score{}, api.ErrRange
	}
	high, low := new(big.Int).DivMod(squares, new(big.Int).Lsh(big.NewInt(1), 64), new(big.Int))
	return api.Score{Min: least.Uint64(), Sum: sum.Uint64(), High: high.Uint64(), Low: low.Uint64()}, api.OK
}

func plainBetter(a, b api.Score) bool {
	if a.Min != b.Min {
		return a.Min > b.Min
	}
	if a.Sum != b.Sum {
		return a.Sum > b.Sum
	}
	return squaresOf(a).Cmp(squaresOf(b)) < 0
}

func squaresOf(a api.Score) *big.Int {
	sum := new(big.Int).Lsh(natural(a.High), 64)
	return sum.Add(sum, natural(a.Low))
}

func wantSupports(t *testing.T, committee []int, edges []api.Edge, want []uint64, wantE api.Errno) {
	t.Helper()
	if got, e := Supports(committee, edges); !slices.Equal(got, want) || e != wantE {
		t.Errorf("Supports(%v, %v): %v, %d, wanted %v, %d", committee, edges, got, e, want, wantE)
	}
}

func wantScore(t *testing.T, supports []uint64, want api.Score, wantE api.Errno) {
	t.Helper()
	if got, e := Of(supports); got != want || e != wantE {
		t.Errorf("Of(%d): %v, %d, wanted %v, %d", supports, got, e, want, wantE)
	}
}

func checkSupports(t *testing.T, committee []int, edges []api.Edge) api.Errno {
	t.Helper()
	want, e := plainSupports(committee, edges)
	wantSupports(t, committee, edges, want, e)
	return e
}

func checkOf(t *testing.T, supports []uint64) api.Errno {
	t.Helper()
	want, e := plainOf(supports)
	wantScore(t, supports, want, e)
	return e
}

// amounts are those at which words of 32 and 64 bits, and signs, turn.
func amounts() []uint64 {
	return []uint64{
		0, 1, 2, 3, 1<<31 - 1, 1 << 31, 1<<32 - 1, 1 << 32, 1<<32 + 1,
		1<<63 - 1, 1 << 63, 1<<63 + 1, most - 2, most - 1, most,
	}
}

func someAmount(r *rand.Rand) uint64 {
	if r.Intn(4) == 0 {
		list := amounts()
		return list[r.Intn(len(list))]
	}
	return r.Uint64() >> r.Intn(64)
}

// P14.1: what the members are given.
func TestSupports(t *testing.T) {
	edges := []api.Edge{edge(5, 1, 2), edge(5, 2, 1), edge(4, 2, 1), edge(3, 7, 9), edge(3, 2, 0), edge(2, 1, 40)}
	for _, c := range []struct {
		committee []int
		want      []uint64
	}{
		{[]int{1}, []uint64{42}},
		{[]int{2}, []uint64{2}},
		{[]int{1, 2}, []uint64{42, 2}},
		{[]int{1, 2, 7}, []uint64{42, 2, 9}},
		// Nobody gives to 3, and to 8 only others would.
		{[]int{1, 3, 7, 8}, []uint64{42, 0, 9, 0}},
		// The members stand in any order, and each one tells its sum.
		{[]int{7, 2, 1}, []uint64{9, 2, 42}},
		{[]int{2, 1, 2, 2}, []uint64{2, 42, 2, 2}},
		{[]int{3, 3}, []uint64{0, 0}},
		{[]int{}, nil},
		{nil, nil},
	} {
		wantSupports(t, c.committee, edges, c.want, api.OK)
	}
	wantSupports(t, []int{1, 2}, nil, []uint64{0, 0}, api.OK)
	wantSupports(t, []int{1, 2}, []api.Edge{}, []uint64{0, 0}, api.OK)
	wantSupports(t, nil, nil, nil, api.OK)
}

// P14.1: numbers of any size and sign tell members, never those of voters.
func TestMembersOfAnyNumber(t *testing.T) {
	const least, greatest = -1 << 63, 1<<63 - 1
	edges := []api.Edge{edge(1, least, 3), edge(0, -1, 4), edge(-1, 0, 5), edge(2, greatest, 6), edge(1, 1<<32, 7), edge(1, 1<<31, 8)}
	wantSupports(t, []int{least, -1, 0, greatest}, edges, []uint64{3, 4, 5, 6}, api.OK)
	wantSupports(t, []int{1 << 32, 1 << 31, -1 << 31, 1, 2}, edges, []uint64{7, 8, 0, 0, 0}, api.OK)
}

// P14.1: the same voter may give to one member several times, anywhere.
func TestEdgesInAnyOrder(t *testing.T) {
	edges := []api.Edge{edge(9, 2, 1), edge(5, 1, 10), edge(9, 2, 2), edge(9, 2, 2), edge(5, 1, 20), edge(1, 2, 100)}
	for range len(edges) {
		wantSupports(t, []int{1, 2}, edges, []uint64{30, 105}, api.OK)
		edges = append(edges[1:], edges[0])
	}
}

// P14.1: sums up to 2^64 - 1, and those beyond.
func TestGreatSupports(t *testing.T) {
	for _, c := range []struct {
		weights []uint64
		want    uint64
		e       api.Errno
	}{
		{[]uint64{most}, most, api.OK},
		{[]uint64{most, 0}, most, api.OK},
		{[]uint64{0, most}, most, api.OK},
		{[]uint64{most - 1, 1}, most, api.OK},
		{[]uint64{1 << 63, 1<<63 - 1}, most, api.OK},
		{[]uint64{most - 3, 1, 1, 1}, most, api.OK},
		{[]uint64{most, 1}, 0, api.ErrRange},
		{[]uint64{1, most}, 0, api.ErrRange},
		{[]uint64{1 << 63, 1 << 63}, 0, api.ErrRange},
		{[]uint64{most, most}, 0, api.ErrRange},
		// What ran over is small again, and must stay refused.
		{[]uint64{most, 1, 5}, 0, api.ErrRange},
		{[]uint64{most, 2, most}, 0, api.ErrRange},
		{[]uint64{1 << 63, 1 << 63, 1 << 63, 1 << 63}, 0, api.ErrRange},
	} {
		var edges []api.Edge
		for i, weight := range c.weights {
			edges = append(edges, edge(i, 4, weight), edge(i, 2, 1), edge(i, 9, most))
		}
		// Others may be given whatever they are.
		others := []uint64{0, uint64(len(c.weights)), c.want}
		if c.e != api.OK {
			others = nil
		}
		wantSupports(t, []int{1, 2, 4}, edges, others, c.e)
		wantSupports(t, []int{1, 2}, edges, []uint64{0, uint64(len(c.weights))}, api.OK)
		slices.Reverse(others)
		wantSupports(t, []int{4, 2, 1}, edges, others, c.e)
	}
	// Each member has a sum of its own, however great they are together.
	edges := []api.Edge{edge(1, 1, most), edge(1, 2, most), edge(1, 3, most)}
	wantSupports(t, []int{1, 2, 3}, edges, []uint64{most, most, most}, api.OK)
	wantSupports(t, []int{1, 1, 1}, edges, []uint64{most, most, most}, api.OK)
	wantSupports(t, []int{1, 1, 1}, append(edges, edge(2, 2, 1)), []uint64{most, most, most}, api.OK)
	wantSupports(t, []int{1, 1, 1}, append(edges, edge(2, 1, 1)), nil, api.ErrRange)
}

// R1: lists far beyond what an election has.
func TestSupportsOfMany(t *testing.T) {
	const count = 200000
	committee, edges, want := make([]int, count), make([]api.Edge, count), make([]uint64, count)
	for i := range count {
		committee[i], edges[i], want[i] = i, edge(0, count-1-i, uint64(i)), uint64(count-1-i)
	}
	if got, e := Supports(committee, edges); !slices.Equal(got, want) || e != api.OK {
		t.Errorf("%d members: %d supports, %d", count, len(got), e)
	}
	for i := range edges {
		edges[i] = edge(i, 5, 1<<40)
	}
	got, e := Supports(committee, edges)
	if e != api.OK || got[5] != count<<40 || got[4] != 0 {
		t.Errorf("%d edges to one member: %d", count, e)
	}
}

// P14.1: scores.
func TestOf(t *testing.T) {
	for _, c := range []struct {
		supports []uint64
		want     api.Score
	}{
		{nil, api.Score{}},
		{[]uint64{}, api.Score{}},
		{[]uint64{3, 4}, api.Score{Min: 3, Sum: 7, Low: 25}},
		{[]uint64{4, 3}, api.Score{Min: 3, Sum: 7, Low: 25}},
		{[]uint64{0}, api.Score{}},
		{[]uint64{0, 0, 0}, api.Score{}},
		{[]uint64{1}, api.Score{Min: 1, Sum: 1, Low: 1}},
		{[]uint64{7}, api.Score{Min: 7, Sum: 7, Low: 49}},
		// A member to which nobody gives.
		{[]uint64{5, 0, 2}, api.Score{Min: 0, Sum: 7, Low: 29}},
		{[]uint64{0, 5, 2}, api.Score{Min: 0, Sum: 7, Low: 29}},
		// The least one stands anywhere, or several times.
		{[]uint64{5, 2, 9}, api.Score{Min: 2, Sum: 16, Low: 110}},
		{[]uint64{5, 9, 2, 2}, api.Score{Min: 2, Sum: 18, Low: 114}},
		{[]uint64{6, 6, 6}, api.Score{Min: 6, Sum: 18, Low: 108}},
		// Squares of more than 64 bits.
		{[]uint64{1<<32 - 1}, api.Score{Min: 1<<32 - 1, Sum: 1<<32 - 1, Low: most - 1<<33 + 2}},
		{[]uint64{1 << 32}, api.Score{Min: 1 << 32, Sum: 1 << 32, High: 1}},
		{[]uint64{1<<32 + 1}, api.Score{Min: 1<<32 + 1, Sum: 1<<32 + 1, High: 1, Low: 1<<33 + 1}},
		{[]uint64{most}, api.Score{Min: most, Sum: most, High: most - 1, Low: 1}},
		// What is carried from the low halves, which run over once or more.
		{[]uint64{3 << 30, 3 << 30}, api.Score{Min: 3 << 30, Sum: 6 << 30, High: 1, Low: 1 << 61}},
		{[]uint64{3 << 30, 3 << 30, 3 << 30}, api.Score{Min: 3 << 30, Sum: 9 << 30, High: 1, Low: 11 << 60}},
		{[]uint64{15 << 28, 15 << 28, 15 << 28}, api.Score{Min: 15 << 28, Sum: 45 << 28, High: 2, Low: 163 << 56}},
	} {
		wantScore(t, c.supports, c.want, api.OK)
	}
}

// P14.1: sums of supports up to 2^64 - 1, and those beyond.
func TestGreatScores(t *testing.T) {
	for _, supports := range [][]uint64{
		{most}, {most, 0}, {0, most}, {most - 1, 1}, {1 << 63, 1<<63 - 1}, {1<<63 - 1, 1 << 63},
		{most / 3, most / 3, most / 3}, {1 << 62, 1 << 62, 1 << 62, 1<<62 - 1},
	} {
		want, _ := plainOf(supports)
		if want.Sum != most {
			t.Fatalf("%d: the sum is %d", supports, want.Sum)
		}
		wantScore(t, supports, want, api.OK)
		wantScore(t, append(supports, 0), api.Score{Min: 0, Sum: most, High: want.High, Low: want.Low}, api.OK)
		wantScore(t, append(supports, 1), api.Score{}, api.ErrRange)
		wantScore(t, append(supports, 1, 5), api.Score{}, api.ErrRange)
		wantScore(t, append([]uint64{1}, supports...), api.Score{}, api.ErrRange)
	}
	for _, supports := range [][]uint64{
		{1 << 63, 1 << 63}, {most, most}, {most, 1}, {1, most}, {most, 2, most}, {most, most, most, most},
		{1 << 63, 1 << 63, 1 << 63, 1 << 63}, {1 << 62, 1 << 62, 1 << 62, 1 << 62},
		// The squares are below 2^128 here, the sum is not.
		{1 << 63, 1 << 62, 1 << 62}, {1<<63 + 1, 1<<63 - 1, 0},
	} {
		wantScore(t, supports, api.Score{}, api.ErrRange)
	}
}

// R1: lists far beyond what a committee has, to the last that fits.
func TestScoreOfMany(t *testing.T) {
	const count = 1 << 16
	supports := make([]uint64, count)
	for i := range supports {
		supports[i] = 1 << 48
	}
	wantRange := func() {
		t.Helper()
		if got, e := Of(supports); got != (api.Score{}) || e != api.ErrRange {
			t.Errorf("%d supports: %v, %d", count, got, e)
		}
	}
	wantRange()
	supports[count-1]--
	want := api.Score{Min: 1<<48 - 1, Sum: most, High: 1<<48 - 1, Low: most - 1<<49 + 2}
	if got, e := Of(supports); got != want || e != api.OK {
		t.Errorf("%d supports: %v, %d, wanted %v", count, got, e, want)
	}
	for i := range supports {
		supports[i] = most
	}
	wantRange()
}

// P14.1: all edges with each other, against plain reckoning.
func TestAmounts(t *testing.T) {
	for _, a := range amounts() {
		checkOf(t, []uint64{a})
		for _, b := range amounts() {
			checkOf(t, []uint64{a, b})
			for _, c := range amounts() {
				checkOf(t, []uint64{a, b, c})
				checkSupports(t, []int{1, 2}, []api.Edge{edge(1, 1, a), edge(1, 2, b), edge(2, 1, c)})
			}
		}
	}
}

// someEdges returns up to 40 edges, with weights that only at times run over.
func someEdges(r *rand.Rand) []api.Edge {
	list := make([]api.Edge, r.Intn(41))
	for i := range list {
		list[i] = edge(r.Intn(9), r.Intn(9)-1, someAmount(r))
		if r.Intn(6) > 0 {
			list[i].Weight >>= 10
		}
	}
	return list
}

func someCommittee(r *rand.Rand) []int {
	list := make([]int, r.Intn(9))
	for i := range list {
		list[i] = r.Intn(10) - 1
	}
	return list
}

// P14.1: many committees and supports, against plain reckoning.
func TestMany(t *testing.T) {
	r := rand.New(rand.NewSource(14))
	seen := make(map[api.Errno]int)
	for range 20000 {
		committee, edges := someCommittee(r), someEdges(r)
		seen[checkSupports(t, committee, edges)]++
		if supports, e := Supports(committee, edges); e == api.OK {
			seen[10+checkOf(t, supports)]++
		}
	}
	for _, e := range []api.Errno{api.OK, api.ErrRange, 10, 10 + api.ErrRange} {
		if seen[e] < 300 {
			t.Errorf("only %d of the kind %d", seen[e], e)
		}
	}
}

// P14.1: the least support, then the sum, then the squares.
func TestBetter(t *testing.T) {
	for _, c := range []struct{ a, b api.Score }{
		{api.Score{Min: 1}, api.Score{}},
		{api.Score{Min: most}, api.Score{Min: most - 1}},
		{api.Score{Min: 1 << 63}, api.Score{Min: 1<<63 - 1}},
		{api.Score{Sum: 1}, api.Score{}},
		{api.Score{Sum: most}, api.Score{Sum: 1}},
		{api.Score{}, api.Score{Low: 1}},
		{api.Score{}, api.Score{High: 1}},
		{api.Score{Low: most - 1}, api.Score{Low: most}},
		{api.Score{High: 1<<63 - 1}, api.Score{High: 1 << 63}},
		// The least support goes ahead of all else.
		{api.Score{Min: 2, Sum: 2, High: 9, Low: 9}, api.Score{Min: 1, Sum: 9, High: 1, Low: 1}},
		// Then the sum.
		{api.Score{Min: 2, Sum: 3, High: 9, Low: 9}, api.Score{Min: 2, Sum: 2, High: 1, Low: 1}},
		// Then all of the squares, the lesser ones being better.
		{api.Score{Min: 2, Sum: 3, High: 1, Low: 9}, api.Score{Min: 2, Sum: 3, High: 2, Low: 1}},
		{api.Score{Min: 2, Sum: 3, High: 1, Low: most}, api.Score{Min: 2, Sum: 3, High: 2}},
		{api.Score{Min: 2, Sum: 3, High: 1, Low: 1}, api.Score{Min: 2, Sum: 3, High: 1, Low: 2}},
	} {
		if !Better(c.a, c.b) || Better(c.b, c.a) || Better(c.a, c.a) || Better(c.b, c.b) {
			t.Errorf("%v, %v: %v, %v", c.a, c.b, Better(c.a, c.b), Better(c.b, c.a))
		}
	}
}

// P14.1: all scores of a few numbers, held against each other.
func TestBetterOfAll(t *testing.T) {
	var list []api.Score
	numbers := []uint64{0, 1, 1 << 63, most}
	for _, least := range numbers {
		for _, sum := range numbers {
			for _, high := range numbers {
				for _, low := range numbers {
					list = append(list, api.Score{Min: least, Sum: sum, High: high, Low: low})
				}
			}
		}
	}
	for _, a := range list {
		for _, b := range list {
			if got := Better(a, b); got != plainBetter(a, b) {
				t.Errorf("Better(%v, %v): %v", a, b, got)
			}
		}
	}
}

// P14.1: scores of supports that are the same in all but one regard.
func TestBetterSupports(t *testing.T) {
	list := [][]uint64{{6, 6, 6}, {5, 9, 9}, {5, 8, 10}, {5, 8, 8}, {5, 7, 9}, {4, 100, 100}, {0, 5, 5}, {}}
	for i := range list {
		for k := range list {
			a, _ := Of(list[i])
			b, _ := Of(list[k])
			if got := Better(a, b); got != (i < k) {
				t.Errorf("%d, %d: %v", list[i], list[k], got)
			}
		}
	}
}

// lent returns a list with spare capacity that is filled.
func lent[T any](list []T, filling T) []T {
	return append(slices.Clone(list), filling, filling)[: len(list) : len(list)+2]
}

func wholly[T comparable](a, b []T) bool {
	return len(a) == len(b) && slices.Equal(a[:cap(a)], b[:cap(b)])
}

// R3: what is handed in is left as it is, and what comes out may be written over.
func TestMemory(t *testing.T) {
	r := rand.New(rand.NewSource(15))
	for range 300 {
		someone, given := someCommittee(r), someEdges(r)
		committee, edges := lent(someone, 5), lent(given, edge(5, 5, 5))
		got, e := Supports(committee, edges)
		want := slices.Clone(got)
		clear(got[:cap(got)])
		if !wholly(committee, lent(someone, 5)) || !wholly(edges, lent(given, edge(5, 5, 5))) {
			t.Errorf("Supports(%v, %v): became %v, %v", someone, given, committee, edges)
		}
		wantSupports(t, committee, edges, want, e)
		got, _ = Supports(committee, edges)
		clear(committee[:cap(committee)])
		clear(edges[:cap(edges)])
		if !slices.Equal(got, want) {
			t.Errorf("Supports(%v, %v), these written over: %v", someone, given, got)
		}
		supports := lent(want, 5)
		Of(supports)
		if !wholly(supports, lent(want, 5)) {
			t.Errorf("Of(%v): became %v", want, supports)
		}
	}
}

// R2, R4: the same again answers the same, and nil is the empty list.
func TestSameAgain(t *testing.T) {
	for range 3 {
		wantSupports(t, []int{2, 1}, []api.Edge{edge(5, 1, 2), edge(5, 2, 1)}, []uint64{1, 2}, api.OK)
		wantSupports(t, []int{1}, []api.Edge{edge(5, 1, most), edge(6, 1, 1)}, nil, api.ErrRange)
		wantSupports(t, nil, []api.Edge{}, nil, api.OK)
		wantSupports(t, []int{}, nil, nil, api.OK)
		wantScore(t, []uint64{3, 4}, api.Score{Min: 3, Sum: 7, Low: 25}, api.OK)
		wantScore(t, []uint64{most, 1}, api.Score{}, api.ErrRange)
		wantScore(t, nil, api.Score{}, api.OK)
		wantScore(t, []uint64{}, api.Score{}, api.OK)
	}
}
