package ledger

import (
	"math"
	"math/big"
	"math/rand"
	"slices"
	"strconv"
	"testing"

	"psephos/api"
)

const most = math.MaxUint64

// place is where an amount lies; kind is free, bonded, deposited, chunk,
// treasury or pot.
type place struct {
	kind    string
	id, era int
}

// plain is the chapter's ledger as amounts of any size at places, beside the
// issuance, which no move changes.
type plain struct {
	count    int
	held     map[place]*big.Int
	issuance *big.Int
}

func natural(a uint64) *big.Int { return new(big.Int).SetUint64(a) }

// plainOf returns the plain ledger; the balances must be good ones.
func plainOf(balances []uint64) *plain {
	p := &plain{len(balances), map[place]*big.Int{}, new(big.Int)}
	for id, a := range balances {
		p.held[place{"free", id, 0}] = natural(a)
		p.issuance.Add(p.issuance, natural(a))
	}
	return p
}

func (p *plain) at(where place) *big.Int {
	if p.held[where] == nil {
		p.held[where] = new(big.Int)
	}
	return p.held[where]
}

func (p *plain) lacks(id int) bool { return id < 0 || id >= p.count }

func (p *plain) move(from, to place, amount uint64) api.Errno {
	if p.at(from).Cmp(natural(amount)) < 0 {
		return api.ErrFunds
	}
	p.at(from).Sub(p.at(from), natural(amount))
	p.at(to).Add(p.at(to), natural(amount))
	return api.OK
}

// chunks lists the account's chunks that are not empty, by ascending era.
func (p *plain) chunks(id int) []Chunk {
	var list []Chunk
	for where, a := range p.held {
		if where.kind == "chunk" && where.id == id && a.Sign() > 0 {
			list = append(list, Chunk{a.Uint64(), where.era})
		}
	}
	slices.SortFunc(list, func(a, b Chunk) int {
		if a.Era < b.Era {
			return -1
		}
		return 1
	})
	return list
}

func (p *plain) account(id int) Account {
	amount := func(kind string) uint64 { return p.at(place{kind, id, 0}).Uint64() }
	return Account{amount("free"), amount("bonded"), amount("deposited"), p.chunks(id)}
}

// call is one call of a ledger; what it does not need stays 0.
type call struct {
	name   string
	id, to int
	amount uint64
	era    int
}

func (c call) String() string {
	return c.name + " id " + strconv.Itoa(c.id) + " to " + strconv.Itoa(c.to) +
		" amount " + strconv.FormatUint(c.amount, 10) + " era " + strconv.Itoa(c.era)
}

// names are the calls that change a ledger.
func names() []string {
	return []string{"Transfer", "Bond", "Unbond", "Withdraw", "Deposit", "Release", "Forfeit", "Mint", "Pay", "Keep", "Slash"}
}

// onAccounts are those of them that have an account.
func onAccounts() []string {
	return slices.DeleteFunc(names(), func(name string) bool { return name == "Mint" || name == "Keep" })
}

// do plays the call on the ledger.
func (c call) do(l *Ledger) (uint64, api.Errno) {
	switch c.name {
	case "Transfer":
		return 0, l.Transfer(c.id, c.to, c.amount)
	case "Bond":
		return 0, l.Bond(c.id, c.amount)
	case "Unbond":
		return 0, l.Unbond(c.id, c.amount, c.era)
	case "Withdraw":
		return l.Withdraw(c.id, c.era)
	case "Deposit":
		return 0, l.Deposit(c.id, c.amount)
	case "Release":
		return 0, l.Release(c.id, c.amount)
	case "Forfeit":
		return 0, l.Forfeit(c.id, c.amount)
	case "Mint":
		return 0, l.Mint(c.amount)
	case "Pay":
		return 0, l.Pay(c.id, c.amount)
	case "Keep":
		return 0, l.Keep(c.amount)
	case "Slash":
		return l.Slash(c.id, c.amount)
	}
	panic(c.name)
}

// plainly plays the call on the plain ledger.
func (c call) plainly(p *plain) (uint64, api.Errno) {
	free, bonded, deposited := place{"free", c.id, 0}, place{"bonded", c.id, 0}, place{"deposited", c.id, 0}
	treasury, pot := place{kind: "treasury"}, place{kind: "pot"}
	switch c.name {
	case "Mint":
		return 0, p.mint(c.amount)
	case "Keep":
		return 0, p.move(pot, treasury, c.amount)
	}
	if p.lacks(c.id) {
		return 0, api.ErrNone
	}
	switch c.name {
	case "Transfer":
		if p.lacks(c.to) {
			return 0, api.ErrNone
		}
		return 0, p.move(free, place{"free", c.to, 0}, c.amount)
	case "Bond":
		return 0, p.move(free, bonded, c.amount)
	case "Deposit":
		return 0, p.move(free, deposited, c.amount)
	case "Release":
		return 0, p.move(deposited, free, c.amount)
	case "Forfeit":
		return 0, p.move(deposited, treasury, c.amount)
	case "Pay":
		return 0, p.move(pot, free, c.amount)
	case "Unbond":
		return 0, p.unbond(c.id, c.amount, c.era)
	case "Withdraw":
		return p.withdraw(c.id, c.era), api.OK
	case "Slash":
		return p.slash(c.id, c.amount), api.OK
	}
	panic(c.name)
}

func (p *plain) mint(amount uint64) api.Errno {
	sum := new(big.Int).Add(p.issuance, natural(amount))
	if sum.BitLen() > 64 {
		return api.ErrRange
	}
	p.issuance = sum
	pot := p.at(place{kind: "pot"})
	pot.Add(pot, natural(amount))
	return api.OK
}

func (p *plain) unbond(id int, amount uint64, era int) api.Errno {
	bonded, chunk := place{"bonded", id, 0}, place{"chunk", id, era}
	switch {
	case amount == 0:
		return api.ErrArg
	case p.at(bonded).Cmp(natural(amount)) < 0:
		return api.ErrFunds
	case p.at(chunk).Sign() == 0 && len(p.chunks(id)) == api.MaxChunks:
		return api.ErrFull
	}
	return p.move(bonded, chunk, amount)
}

func (p *plain) withdraw(id, era int) uint64 {
	all := uint64(0)
	for _, c := range p.chunks(id) {
		if c.Era <= era {
			p.move(place{"chunk", id, c.Era}, place{"free", id, 0}, c.Amount)
			all += c.Amount
		}
	}
	return all
}

func (p *plain) slash(id int, amount uint64) uint64 {
	sources := []place{{"bonded", id, 0}}
	for _, c := range slices.Backward(p.chunks(id)) {
		sources = append(sources, place{"chunk", id, c.Era})
	}
	left := amount
	for _, source := range sources {
		part := min(left, p.at(source).Uint64())
		p.move(source, place{kind: "treasury"}, part)
		left -= part
	}
	return amount - left
}

func sameAccount(a, b Account) bool {
	return a.Free == b.Free && a.Bonded == b.Bonded && a.Deposited == b.Deposited && slices.Equal(a.Chunks, b.Chunks)
}

// check holds all that the ledger tells against the plain one, and all that
// it tells together against the issuance (P1).
func check(t *testing.T, l *Ledger, p *plain, after string) {
	t.Helper()
	if l == nil {
		t.Fatalf("%s: no ledger", after)
	}
	if l.Accounts() != p.count {
		t.Fatalf("%s: %d accounts, wanted %d", after, l.Accounts(), p.count)
	}
	treasury, pot := p.at(place{kind: "treasury"}), p.at(place{kind: "pot"})
	if l.Treasury() != treasury.Uint64() || l.Pot() != pot.Uint64() || l.Issuance() != p.issuance.Uint64() {
		t.Fatalf("%s: treasury %d, pot %d, issuance %d, wanted %d, %d, %d",
			after, l.Treasury(), l.Pot(), l.Issuance(), treasury, pot, p.issuance)
	}
	all := new(big.Int).Add(natural(l.Treasury()), natural(l.Pot()))
	for id := range p.count {
		a, ok := l.Account(id)
		if !ok || !sameAccount(a, p.account(id)) {
			t.Fatalf("%s: account %d is %v, %v, wanted %v", after, id, a, ok, p.account(id))
		}
		for _, part := range []uint64{a.Free, a.Bonded, a.Deposited} {
			all.Add(all, natural(part))
		}
		checkChunks(t, a.Chunks, after)
		for _, c := range a.Chunks {
			all.Add(all, natural(c.Amount))
		}
	}
	if all.Cmp(p.issuance) != 0 {
		t.Fatalf("%s: %d in all, the issuance is %d", after, all, p.issuance)
	}
}

func checkChunks(t *testing.T, chunks []Chunk, after string) {
	t.Helper()
	if len(chunks) > api.MaxChunks {
		t.Fatalf("%s: %d chunks", after, len(chunks))
	}
	for i, c := range chunks {
		if c.Amount == 0 || i > 0 && chunks[i-1].Era >= c.Era {
			t.Fatalf("%s: chunks %v", after, chunks)
		}
	}
}

// checkCall plays the call on both and holds them against each other.
func checkCall(t *testing.T, l *Ledger, p *plain, c call) api.Errno {
	t.Helper()
	n, e := c.do(l)
	wantN, wantE := c.plainly(p)
	if n != wantN || e != wantE {
		t.Fatalf("%v: %d, %d, wanted %d, %d", c, n, e, wantN, wantE)
	}
	check(t, l, p, c.String())
	return e
}

// want plays the call on both, whose answer must be this.
func want(t *testing.T, l *Ledger, p *plain, c call, wanted api.Errno) {
	t.Helper()
	if e := checkCall(t, l, p, c); e != wanted {
		t.Fatalf("%v: %d, wanted %d", c, e, wanted)
	}
}

// begun returns a ledger and a plain one with these balances.
func begun(t *testing.T, balances ...uint64) (*Ledger, *plain) {
	t.Helper()
	l, e := New(balances)
	if e != api.OK {
		t.Fatalf("New(%d): %d", balances, e)
	}
	p := plainOf(balances)
	check(t, l, p, "New")
	return l, p
}

// stocked returns both with something everywhere: account 0 has 40 free, 30
// bonded, 20 deposited and chunks of 1, 2 and 3; account 1 has 50 free; the
// treasury has 4 and the pot 10.
func stocked(t *testing.T) (*Ledger, *plain) {
	t.Helper()
	l, p := begun(t, 100, 50)
	for _, c := range []call{
		{name: "Bond", amount: 36},
		{name: "Unbond", amount: 2, era: 5},
		{name: "Unbond", amount: 3, era: 9},
		{name: "Unbond", amount: 1, era: 2},
		{name: "Deposit", amount: 24},
		{name: "Forfeit", amount: 4},
		{name: "Mint", amount: 10},
	} {
		want(t, l, p, c, api.OK)
	}
	return l, p
}

// absent lists numbers that are no accounts of so many.
func absent(count int) []int {
	return []int{-1, -2, -count - 1, count, count + 1, api.MaxAccounts, math.MinInt, math.MinInt + 1, math.MaxInt}
}

// P7.1

func TestNew(t *testing.T) {
	full := make([]uint64, api.MaxAccounts)
	for i := range full {
		full[i] = uint64(i * i)
	}
	even := make([]uint64, api.MaxAccounts)
	for i := range even {
		even[i] = most / api.MaxAccounts
	}
	for _, balances := range [][]uint64{
		nil, {}, {0}, {7}, {most}, {10, 5}, {0, 0, 0}, {most - 1, 1}, {1, 0, most - 1},
		{1 << 63, 1<<63 - 1}, {1 << 62, 1 << 62, 1 << 62, 1<<62 - 1}, full, even, make([]uint64, api.MaxAccounts),
	} {
		l, e := New(balances)
		if e != api.OK {
			t.Fatalf("New(%d): %d", balances, e)
		}
		check(t, l, plainOf(balances), "New")
	}
}

func TestNewWrong(t *testing.T) {
	edge := make([]uint64, api.MaxAccounts)
	edge[0], edge[api.MaxAccounts-1] = most, 1
	many := slices.Repeat([]uint64{most}, api.MaxAccounts+1)
	for _, c := range []struct {
		balances []uint64
		want     api.Errno
	}{
		{[]uint64{most, 1}, api.ErrRange},
		{[]uint64{1, most}, api.ErrRange},
		{[]uint64{1 << 63, 1 << 63}, api.ErrRange},
		{[]uint64{most, 1, 5}, api.ErrRange},
		{[]uint64{most, most, most}, api.ErrRange},
		{edge, api.ErrRange},
		{many[:api.MaxAccounts], api.ErrRange},
		{make([]uint64, api.MaxAccounts+1), api.ErrArg},
		{make([]uint64, 5000), api.ErrArg},
		// Both at once.
		{many, api.ErrArg},
		{append(slices.Clone(edge), 0), api.ErrArg},
	} {
		if l, e := New(c.balances); l != nil || e != c.want {
			t.Errorf("New of %d balances: %v, %d, wanted %d", len(c.balances), l, e, c.want)
		}
	}
}

func TestAccount(t *testing.T) {
	l, _ := stocked(t)
	a, ok := l.Account(0)
	if !ok || !sameAccount(a, Account{40, 30, 20, []Chunk{{1, 2}, {2, 5}, {3, 9}}}) {
		t.Error(a, ok)
	}
	a, ok = l.Account(1)
	if !ok || !sameAccount(a, Account{Free: 50}) {
		t.Error(a, ok)
	}
	if l.Treasury() != 4 || l.Pot() != 10 || l.Issuance() != 160 || l.Accounts() != 2 {
		t.Error(l.Treasury(), l.Pot(), l.Issuance(), l.Accounts())
	}
}

func TestNoAccount(t *testing.T) {
	for _, count := range []int{0, 1, 2, api.MaxAccounts} {
		l, _ := begun(t, slices.Repeat([]uint64{3}, count)...)
		for _, id := range absent(count) {
			if a, ok := l.Account(id); ok || !sameAccount(a, Account{}) {
				t.Errorf("account %d of %d: %v, %v", id, count, a, ok)
			}
		}
	}
}

func TestZeroLedger(t *testing.T) {
	l, p := &Ledger{}, plainOf(nil)
	check(t, l, p, "zero Ledger")
	want(t, l, p, call{name: "Bond"}, api.ErrNone)
	want(t, l, p, call{name: "Mint", amount: 3}, api.OK)
	want(t, l, p, call{name: "Keep", amount: 2}, api.OK)
}

func TestLedgersAreApart(t *testing.T) {
	l, p := begun(t, 10)
	m, q := begun(t, 10)
	want(t, l, p, call{name: "Bond", amount: 4}, api.OK)
	check(t, m, q, "the other ledger")
}

// P7.2

func TestErrNone(t *testing.T) {
	l, p := stocked(t)
	for _, name := range onAccounts() {
		for _, id := range absent(2) {
			// Also where the amount is one that is refused, or not there.
			for _, amount := range []uint64{0, 1, 1000, most} {
				want(t, l, p, call{name: name, id: id, amount: amount, era: 9}, api.ErrNone)
			}
		}
	}
	none, q := begun(t)
	for _, name := range onAccounts() {
		want(t, none, q, call{name: name}, api.ErrNone)
	}
}

func TestTransferWithoutAccounts(t *testing.T) {
	l, p := stocked(t)
	for _, id := range absent(2) {
		for _, amount := range []uint64{0, 1, 40, 41, most} {
			want(t, l, p, call{name: "Transfer", id: id, to: 1, amount: amount}, api.ErrNone)
			want(t, l, p, call{name: "Transfer", id: 0, to: id, amount: amount}, api.ErrNone)
			want(t, l, p, call{name: "Transfer", id: id, to: id, amount: amount}, api.ErrNone)
			want(t, l, p, call{name: "Transfer", id: id, to: -id, amount: amount}, api.ErrNone)
		}
	}
}

func TestTransferToItself(t *testing.T) {
	l, p := stocked(t)
	for _, amount := range []uint64{0, 1, 39, 40} {
		want(t, l, p, call{name: "Transfer", amount: amount}, api.OK)
		if a, _ := l.Account(0); a.Free != 40 {
			t.Fatal(amount, a)
		}
	}
	want(t, l, p, call{name: "Transfer", amount: 41}, api.ErrFunds)
	want(t, l, p, call{name: "Transfer", amount: most}, api.ErrFunds)
	rich, q := begun(t, most)
	want(t, rich, q, call{name: "Transfer", amount: most}, api.OK)
}

// What is there to be taken by each call in a ledger that is stocked.
func TestTaking(t *testing.T) {
	for _, x := range []struct {
		name  string
		there uint64
	}{
		{"Transfer", 40}, {"Bond", 40}, {"Unbond", 30}, {"Deposit", 40}, {"Release", 20}, {"Forfeit", 20}, {"Pay", 10}, {"Keep", 10},
	} {
		for _, amount := range []uint64{0, 1, x.there - 1, x.there, x.there + 1, 160, 161, 1 << 63, most - 1, most} {
			l, p := stocked(t)
			wanted := api.OK
			if amount > x.there {
				wanted = api.ErrFunds
			}
			if amount == 0 && x.name == "Unbond" {
				wanted = api.ErrArg
			}
			want(t, l, p, call{name: x.name, to: 1, amount: amount, era: 5}, wanted)
			if amount == x.there {
				want(t, l, p, call{name: x.name, to: 1, amount: 1, era: 5}, api.ErrFunds)
			}
		}
	}
}

// Where what was taken lies then.
func TestMoves(t *testing.T) {
	chunks := []Chunk{{1, 2}, {2, 5}, {3, 9}}
	for _, x := range []struct {
		c             call
		first, second Account
		treasury, pot uint64
	}{
		{call{name: "Transfer", to: 1, amount: 7}, Account{33, 30, 20, chunks}, Account{Free: 57}, 4, 10},
		{call{name: "Transfer", id: 1, amount: 7}, Account{47, 30, 20, chunks}, Account{Free: 43}, 4, 10},
		{call{name: "Bond", amount: 7}, Account{33, 37, 20, chunks}, Account{Free: 50}, 4, 10},
		{call{name: "Bond", id: 1, amount: 7}, Account{40, 30, 20, chunks}, Account{Free: 43, Bonded: 7}, 4, 10},
		{call{name: "Unbond", amount: 7, era: 5}, Account{40, 23, 20, []Chunk{{1, 2}, {9, 5}, {3, 9}}}, Account{Free: 50}, 4, 10},
		{call{name: "Withdraw", era: 5}, Account{43, 30, 20, []Chunk{{3, 9}}}, Account{Free: 50}, 4, 10},
		{call{name: "Deposit", amount: 7}, Account{33, 30, 27, chunks}, Account{Free: 50}, 4, 10},
		{call{name: "Release", amount: 7}, Account{47, 30, 13, chunks}, Account{Free: 50}, 4, 10},
		{call{name: "Forfeit", amount: 7}, Account{40, 30, 13, chunks}, Account{Free: 50}, 11, 10},
		{call{name: "Mint", amount: 7}, Account{40, 30, 20, chunks}, Account{Free: 50}, 4, 17},
		{call{name: "Pay", amount: 7}, Account{47, 30, 20, chunks}, Account{Free: 50}, 4, 3},
		{call{name: "Pay", id: 1, amount: 7}, Account{40, 30, 20, chunks}, Account{Free: 57}, 4, 3},
		{call{name: "Keep", amount: 7}, Account{40, 30, 20, chunks}, Account{Free: 50}, 11, 3},
		{call{name: "Slash", amount: 7}, Account{40, 23, 20, chunks}, Account{Free: 50}, 11, 10},
	} {
		l, p := stocked(t)
		want(t, l, p, x.c, api.OK)
		first, _ := l.Account(0)
		second, _ := l.Account(1)
		if !sameAccount(first, x.first) || !sameAccount(second, x.second) || l.Treasury() != x.treasury || l.Pot() != x.pot {
			t.Errorf("%v: %v, %v, %d, %d", x.c, first, second, l.Treasury(), l.Pot())
		}
	}
}

func TestUnbondOrder(t *testing.T) {
	eras := []int{0, 4, -4, 2, math.MaxInt, math.MinInt, 3, -1}
	l, p := begun(t, 100)
	want(t, l, p, call{name: "Bond", amount: 100}, api.OK)
	for i, era := range eras {
		want(t, l, p, call{name: "Unbond", amount: uint64(i + 1), era: era}, api.OK)
	}
	a, _ := l.Account(0)
	if !slices.Equal(a.Chunks, []Chunk{{6, math.MinInt}, {3, -4}, {8, -1}, {1, 0}, {4, 2}, {7, 3}, {2, 4}, {5, math.MaxInt}}) {
		t.Error(a.Chunks)
	}
	// All there may be are there: each of them still grows, and none is added.
	for _, era := range eras {
		want(t, l, p, call{name: "Unbond", amount: 2, era: era}, api.OK)
	}
	for _, era := range []int{math.MinInt + 1, -2, 1, 5, math.MaxInt - 1} {
		want(t, l, p, call{name: "Unbond", amount: 1, era: era}, api.ErrFull)
		want(t, l, p, call{name: "Unbond", amount: 48, era: era}, api.ErrFull)
		// What is asked ahead of that: the account, the amount, the funds.
		want(t, l, p, call{name: "Unbond", amount: 49, era: era}, api.ErrFunds)
		want(t, l, p, call{name: "Unbond", amount: most, era: era}, api.ErrFunds)
		want(t, l, p, call{name: "Unbond", amount: 0, era: era}, api.ErrArg)
		want(t, l, p, call{name: "Unbond", id: 1, amount: 0, era: era}, api.ErrNone)
	}
	want(t, l, p, call{name: "Unbond", amount: 49, era: 3}, api.ErrFunds)
	want(t, l, p, call{name: "Unbond", amount: 48, era: 3}, api.OK)
	want(t, l, p, call{name: "Unbond", amount: 1, era: 3}, api.ErrFunds)
	want(t, l, p, call{name: "Unbond", amount: 1, era: 1}, api.ErrFunds)
	want(t, l, p, call{name: "Unbond", amount: 0, era: 1}, api.ErrArg)
}

// A chunk that is gone makes room for another one.
func TestUnbondAfterRoom(t *testing.T) {
	for _, c := range []call{{name: "Withdraw", era: 0}, {name: "Slash", amount: 51}} {
		l, p := begun(t, 100)
		want(t, l, p, call{name: "Bond", amount: 58}, api.OK)
		for era := range api.MaxChunks {
			want(t, l, p, call{name: "Unbond", amount: 1, era: era}, api.OK)
		}
		want(t, l, p, call{name: "Unbond", amount: 1, era: 8}, api.ErrFull)
		want(t, l, p, c, api.OK)
		want(t, l, p, call{name: "Bond", amount: 5}, api.OK)
		want(t, l, p, call{name: "Unbond", amount: 1, era: 8}, api.OK)
		want(t, l, p, call{name: "Unbond", amount: 1, era: 9}, api.ErrFull)
	}
}

// The number of chunks is each account's own.
func TestChunksOfEachAccount(t *testing.T) {
	l, p := begun(t, 20, 20)
	for id := range 2 {
		want(t, l, p, call{name: "Bond", id: id, amount: 20}, api.OK)
		for era := range api.MaxChunks {
			want(t, l, p, call{name: "Unbond", id: id, amount: 1, era: era}, api.OK)
		}
		want(t, l, p, call{name: "Unbond", id: id, amount: 1, era: -1}, api.ErrFull)
	}
	want(t, l, p, call{name: "Withdraw", era: 3}, api.OK)
	want(t, l, p, call{name: "Unbond", id: 1, amount: 1, era: -1}, api.ErrFull)
}

func TestWithdraw(t *testing.T) {
	eras := []int{math.MinInt, -3, 0, 1, 5, math.MaxInt}
	for _, x := range []struct {
		era  int
		want uint64
		left int
	}{
		{math.MinInt, 1, 5}, {math.MinInt + 1, 1, 5}, {-4, 1, 5}, {-3, 3, 4}, {-2, 3, 4}, {-1, 3, 4}, {0, 7, 3}, {1, 15, 2},
		{2, 15, 2}, {4, 15, 2}, {5, 31, 1}, {6, 31, 1}, {math.MaxInt - 1, 31, 1}, {math.MaxInt, 63, 0},
	} {
		l, p := begun(t, 100)
		want(t, l, p, call{name: "Bond", amount: 70}, api.OK)
		for i, era := range eras {
			want(t, l, p, call{name: "Unbond", amount: 1 << i, era: era}, api.OK)
		}
		if n, e := l.Withdraw(0, x.era); n != x.want || e != api.OK {
			t.Errorf("Withdraw(0, %d): %d, %d, wanted %d", x.era, n, e, x.want)
		}
		p.withdraw(0, x.era)
		check(t, l, p, "Withdraw")
		if a, _ := l.Account(0); a.Free != 30+x.want || a.Bonded != 7 || len(a.Chunks) != x.left {
			t.Errorf("Withdraw(0, %d): %v", x.era, a)
		}
		// Nothing is due twice.
		if n, e := l.Withdraw(0, x.era); n != 0 || e != api.OK {
			t.Errorf("Withdraw(0, %d) again: %d, %d", x.era, n, e)
		}
		check(t, l, p, "Withdraw again")
	}
}

func TestWithdrawNothing(t *testing.T) {
	l, p := stocked(t)
	for _, era := range []int{math.MinInt, -1, 0, 1} {
		if n, e := l.Withdraw(0, era); n != 0 || e != api.OK {
			t.Errorf("Withdraw(0, %d): %d, %d", era, n, e)
		}
		check(t, l, p, "Withdraw")
	}
	for _, era := range []int{math.MinInt, 0, math.MaxInt} {
		if n, e := l.Withdraw(1, era); n != 0 || e != api.OK {
			t.Errorf("Withdraw(1, %d): %d, %d", era, n, e)
		}
		check(t, l, p, "Withdraw")
	}
}

// P7.3

func TestMint(t *testing.T) {
	for _, x := range []struct {
		balances []uint64
		amount   uint64
		want     api.Errno
	}{
		{nil, 0, api.OK}, {nil, 5, api.OK}, {nil, most, api.OK},
		{[]uint64{10, 5}, 0, api.OK},
		{[]uint64{10, 5}, 7, api.OK},
		{[]uint64{10, 5}, most - 15, api.OK},
		{[]uint64{10, 5}, most - 14, api.ErrRange},
		{[]uint64{10, 5}, most, api.ErrRange},
		{[]uint64{most}, 0, api.OK},
		{[]uint64{most}, 1, api.ErrRange},
		{[]uint64{most}, most, api.ErrRange},
		{[]uint64{1 << 63}, 1<<63 - 1, api.OK},
		{[]uint64{1 << 63}, 1 << 63, api.ErrRange},
	} {
		l, p := begun(t, x.balances...)
		want(t, l, p, call{name: "Mint", amount: x.amount}, x.want)
	}
	l, p := begun(t, 1)
	want(t, l, p, call{name: "Mint", amount: most - 2}, api.OK)
	want(t, l, p, call{name: "Mint", amount: 2}, api.ErrRange)
	want(t, l, p, call{name: "Mint", amount: 1}, api.OK)
	want(t, l, p, call{name: "Mint", amount: 1}, api.ErrRange)
	want(t, l, p, call{name: "Mint", amount: 0}, api.OK)
}

// The issuance counts whatever place it lies at: none of it makes room.
func TestMintCountsAll(t *testing.T) {
	l, p := stocked(t)
	want(t, l, p, call{name: "Mint", amount: most - 159}, api.ErrRange)
	want(t, l, p, call{name: "Mint", amount: most - 160}, api.OK)
	want(t, l, p, call{name: "Mint", amount: 1}, api.ErrRange)
	want(t, l, p, call{name: "Keep", amount: most - 150}, api.OK)
	want(t, l, p, call{name: "Mint", amount: 1}, api.ErrRange)
}

func TestGreatestAmounts(t *testing.T) {
	l, p := begun(t, most, 0)
	for _, c := range []call{
		{name: "Transfer", to: 1, amount: most},
		{name: "Bond", id: 1, amount: most},
		{name: "Unbond", id: 1, amount: most, era: 1},
		{name: "Withdraw", id: 1, era: 1},
		{name: "Deposit", id: 1, amount: most},
		{name: "Release", id: 1, amount: most},
		{name: "Bond", id: 1, amount: most},
		{name: "Unbond", id: 1, amount: most - 5, era: 1},
		{name: "Slash", id: 1, amount: most},
		{name: "Slash", id: 1, amount: most},
	} {
		want(t, l, p, c, api.OK)
	}
	if l.Treasury() != most {
		t.Error(l.Treasury())
	}
	l, p = begun(t, 0)
	for _, c := range []call{
		{name: "Mint", amount: most},
		{name: "Pay", amount: most},
		{name: "Deposit", amount: most},
		{name: "Forfeit", amount: most},
	} {
		want(t, l, p, c, api.OK)
	}
	l, p = begun(t)
	want(t, l, p, call{name: "Mint", amount: most}, api.OK)
	want(t, l, p, call{name: "Keep", amount: most}, api.OK)
}

func TestPayAndKeep(t *testing.T) {
	l, p := begun(t, 1, 1)
	want(t, l, p, call{name: "Pay", amount: 1}, api.ErrFunds)
	want(t, l, p, call{name: "Keep", amount: 1}, api.ErrFunds)
	want(t, l, p, call{name: "Pay", amount: 0}, api.OK)
	want(t, l, p, call{name: "Keep", amount: 0}, api.OK)
	want(t, l, p, call{name: "Mint", amount: 10}, api.OK)
	want(t, l, p, call{name: "Pay", id: 1, amount: 11}, api.ErrFunds)
	want(t, l, p, call{name: "Keep", amount: 11}, api.ErrFunds)
	want(t, l, p, call{name: "Pay", id: 2, amount: 11}, api.ErrNone)
	want(t, l, p, call{name: "Pay", id: 1, amount: 6}, api.OK)
	want(t, l, p, call{name: "Keep", amount: 5}, api.ErrFunds)
	want(t, l, p, call{name: "Keep", amount: 3}, api.OK)
	want(t, l, p, call{name: "Pay", amount: 2}, api.ErrFunds)
	want(t, l, p, call{name: "Pay", amount: 1}, api.OK)
	want(t, l, p, call{name: "Keep", amount: 1}, api.ErrFunds)
	if l.Pot() != 0 || l.Treasury() != 3 || l.Issuance() != 12 {
		t.Error(l.Pot(), l.Treasury(), l.Issuance())
	}
}

func TestSlash(t *testing.T) {
	// 30 bonded, and chunks of 1, 2 and 3 in the eras 2, 5 and 9.
	for _, x := range []struct {
		amount, want, bonded uint64
		chunks               []Chunk
	}{
		{0, 0, 30, []Chunk{{1, 2}, {2, 5}, {3, 9}}},
		{1, 1, 29, []Chunk{{1, 2}, {2, 5}, {3, 9}}},
		{29, 29, 1, []Chunk{{1, 2}, {2, 5}, {3, 9}}},
		{30, 30, 0, []Chunk{{1, 2}, {2, 5}, {3, 9}}},
		{31, 31, 0, []Chunk{{1, 2}, {2, 5}, {2, 9}}},
		{32, 32, 0, []Chunk{{1, 2}, {2, 5}, {1, 9}}},
		{33, 33, 0, []Chunk{{1, 2}, {2, 5}}},
		{34, 34, 0, []Chunk{{1, 2}, {1, 5}}},
		{35, 35, 0, []Chunk{{1, 2}}},
		{36, 36, 0, nil},
		{37, 36, 0, nil},
		{160, 36, 0, nil},
		{most, 36, 0, nil},
	} {
		l, p := stocked(t)
		n, e := l.Slash(0, x.amount)
		if n != x.want || e != api.OK {
			t.Errorf("Slash(0, %d): %d, %d, wanted %d", x.amount, n, e, x.want)
		}
		p.slash(0, x.amount)
		check(t, l, p, "Slash")
		a, _ := l.Account(0)
		if !sameAccount(a, Account{40, x.bonded, 20, x.chunks}) || l.Treasury() != 4+x.want {
			t.Errorf("Slash(0, %d): %v, treasury %d", x.amount, a, l.Treasury())
		}
	}
}

func TestSlashNothing(t *testing.T) {
	for _, amount := range []uint64{0, 1, most} {
		l, p := stocked(t)
		if n, e := l.Slash(1, amount); n != 0 || e != api.OK {
			t.Errorf("Slash(1, %d): %d, %d", amount, n, e)
		}
		check(t, l, p, "Slash")
	}
}

// Nothing bonded, so that the chunks are taken from at once, again and again.
func TestSlashChunksInTurn(t *testing.T) {
	l, p := begun(t, 50)
	want(t, l, p, call{name: "Bond", amount: 36}, api.OK)
	for i := range api.MaxChunks {
		want(t, l, p, call{name: "Unbond", amount: uint64(i + 1), era: i}, api.OK)
	}
	for left := uint64(36); left > 0; left -= 4 {
		if n, e := l.Slash(0, 4); n != 4 || e != api.OK {
			t.Fatal(left, n, e)
		}
		p.slash(0, 4)
		check(t, l, p, "Slash")
	}
	want(t, l, p, call{name: "Slash", amount: 4}, api.OK)
	// The chunks that are gone leave nothing to withdraw.
	if n, e := l.Withdraw(0, math.MaxInt); n != 0 || e != api.OK {
		t.Error(n, e)
	}
}

func TestExample(t *testing.T) {
	l, _ := New([]uint64{10})
	if l.Bond(0, 6) != api.OK || l.Unbond(0, 4, 3) != api.OK {
		t.Fatal("bond, unbond")
	}
	if n, e := l.Slash(0, 5); n != 5 || e != api.OK {
		t.Error(n, e)
	}
	if a, _ := l.Account(0); !sameAccount(a, Account{Free: 4, Chunks: []Chunk{{1, 3}}}) || l.Treasury() != 5 || l.Issuance() != 10 {
		t.Error(a, l.Treasury(), l.Issuance())
	}
}

// R1

func TestNilLedger(t *testing.T) {
	var l *Ledger
	for _, name := range names() {
		for _, id := range append(absent(0), 0) {
			for _, amount := range []uint64{0, 1, most} {
				c := call{name: name, id: id, to: id, amount: amount, era: id}
				if n, e := c.do(l); n != 0 || e != api.ErrArg {
					t.Errorf("%v: %d, %d", c, n, e)
				}
			}
		}
	}
	for _, id := range append(absent(0), 0) {
		if a, ok := l.Account(id); ok || !sameAccount(a, Account{}) {
			t.Error(id, a, ok)
		}
	}
	if l.Accounts() != 0 || l.Treasury() != 0 || l.Pot() != 0 || l.Issuance() != 0 {
		t.Error(l.Accounts(), l.Treasury(), l.Pot(), l.Issuance())
	}
}

// R3

func TestBalancesStay(t *testing.T) {
	whole := []uint64{10, 5, 91, 92, 93}
	l, e := New(whole[:2])
	if e != api.OK {
		t.Fatal(e)
	}
	p := plainOf([]uint64{10, 5})
	want(t, l, p, call{name: "Bond", amount: 3}, api.OK)
	want(t, l, p, call{name: "Transfer", id: 1, amount: 5}, api.OK)
	if !slices.Equal(whole, []uint64{10, 5, 91, 92, 93}) {
		t.Errorf("the balances became %d", whole)
	}
	for i := range whole {
		whole[i] = 77
	}
	check(t, l, p, "balances written over")
}

// spoil overwrites chunks, with what their memory has room for.
func spoil(chunks []Chunk) {
	chunks = chunks[:cap(chunks)]
	for i := range chunks {
		chunks[i] = Chunk{77, -77}
	}
}

func TestAccountIsNewMemory(t *testing.T) {
	l, p := stocked(t)
	calls := []call{
		{name: "Unbond", amount: 1, era: 7},
		{name: "Unbond", amount: 1, era: 1},
		{name: "Unbond", amount: 1, era: 5},
		{name: "Withdraw", era: 2},
		{name: "Slash", amount: 32},
		{name: "Withdraw", era: 100},
		{name: "Bond", amount: 5},
		{name: "Unbond", amount: 2, era: 3},
	}
	for _, c := range calls {
		first, _ := l.Account(0)
		second, _ := l.Account(0)
		kept := slices.Clone(second.Chunks)
		spoil(first.Chunks)
		first.Free, first.Bonded, first.Deposited = 0, 0, 0
		check(t, l, p, "account written over")
		checkCall(t, l, p, c)
		if !slices.Equal(second.Chunks, kept) {
			t.Fatalf("%v: an account told ahead of it became %v", c, second.Chunks)
		}
		spoil(append(second.Chunks, Chunk{5, 5}))
		check(t, l, p, "account appended to")
	}
}

// P7.2, P7.3, P1: many rows of calls against plain reckoning.

// someAmount returns an amount that is often one of those that the ledger
// has, or one more or less.
func someAmount(r *rand.Rand, l *Ledger, id int) uint64 {
	a, _ := l.Account(id)
	near := []uint64{0, 1, 2, 3, a.Free, a.Bonded, a.Deposited, a.Free / 2, a.Bonded / 2, a.Bonded / 8, l.Pot(), l.Pot() / 2, most - l.Issuance(), most}
	for _, c := range a.Chunks {
		near = append(near, a.Bonded+c.Amount)
	}
	switch r.Intn(4) {
	case 0:
		return r.Uint64() >> r.Intn(64)
	case 1:
		return near[r.Intn(len(near))] + uint64(r.Intn(3)) - 1
	}
	return near[r.Intn(len(near))]
}

// someCall returns any call; those that end chunks come seldom and small, as
// there would never be MaxChunks else.
func someCall(r *rand.Rand, l *Ledger) call {
	c := call{name: names()[r.Intn(len(names()))]}
	if r.Intn(3) == 0 {
		c.name = "Unbond"
	}
	c.id, c.to = someID(r, l), someID(r, l)
	c.amount, c.era = someAmount(r, l, c.id), r.Intn(14)-3
	if r.Intn(4) == 0 {
		return c
	}
	switch c.name {
	case "Unbond", "Slash":
		c.amount = uint64(r.Intn(4))
	case "Withdraw":
		c.era = r.Intn(3) - 5
	}
	return c
}

func someID(r *rand.Rand, l *Ledger) int {
	if r.Intn(15) == 0 {
		list := absent(l.Accounts())
		return list[r.Intn(len(list))]
	}
	return r.Intn(l.Accounts())
}

func someBalances(r *rand.Rand) []uint64 {
	balances := make([]uint64, 1+r.Intn(4))
	shift := 3 + r.Intn(59)
	for i := range balances {
		balances[i] = r.Uint64() >> shift
	}
	return balances
}

func TestManyRows(t *testing.T) {
	r := rand.New(rand.NewSource(7))
	seen := map[string]map[api.Errno]int{}
	for _, name := range names() {
		seen[name] = map[api.Errno]int{}
	}
	for range 400 {
		balances := someBalances(r)
		l, p := begun(t, balances...)
		for range 150 {
			c := someCall(r, l)
			seen[c.name][checkCall(t, l, p, c)]++
		}
	}
	// The rows must have met each answer that there is.
	for name, answers := range map[string][]api.Errno{
		"Transfer": {api.OK, api.ErrNone, api.ErrFunds},
		"Bond":     {api.OK, api.ErrNone, api.ErrFunds},
		"Unbond":   {api.OK, api.ErrNone, api.ErrArg, api.ErrFunds, api.ErrFull},
		"Withdraw": {api.OK, api.ErrNone},
		"Deposit":  {api.OK, api.ErrNone, api.ErrFunds},
		"Release":  {api.OK, api.ErrNone, api.ErrFunds},
		"Forfeit":  {api.OK, api.ErrNone, api.ErrFunds},
		"Mint":     {api.OK, api.ErrRange},
		"Pay":      {api.OK, api.ErrNone, api.ErrFunds},
		"Keep":     {api.OK, api.ErrFunds},
		"Slash":    {api.OK, api.ErrNone},
	} {
		for _, e := range answers {
			if seen[name][e] == 0 {
				t.Errorf("%s never answered %d", name, e)
			}
		}
	}
}

// R2: the same calls on two ledgers, with all asked between them on one.
func TestSameHistory(t *testing.T) {
	r := rand.New(rand.NewSource(8))
	for range 100 {
		balances := someBalances(r)
		l, p := begun(t, balances...)
		twin, _ := begun(t, balances...)
		for range 60 {
			c := someCall(r, l)
			n, e := c.do(twin)
			if m, f := c.do(l); m != n || f != e {
				t.Fatalf("%v: %d, %d and %d, %d", c, m, f, n, e)
			}
			c.plainly(p)
			check(t, l, p, c.String())
		}
		check(t, twin, p, "the twin")
	}
}
