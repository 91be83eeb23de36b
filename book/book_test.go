package book_test

import (
	"math"
	"math/big"
	"math/rand"
	"slices"
	"testing"

	"trivet/api"
	"trivet/book"
)

const (
	greatest = math.MaxInt64
	least    = math.MinInt64
)

var (
	cash   = api.Account{Kind: 1}
	trust  = api.Account{Kind: 2}
	own    = api.Account{Kind: 3}
	escrow = api.Account{Kind: 5, Of: 1}
	loan   = api.Account{Kind: 12, Of: 65536}
)

// line is short for a line.
func line(a api.Account, amount int64) api.Line { return api.Line{Account: a, Amount: amount} }

// there tells whether there is an account, as layer 9's table says.
func there(a api.Account) bool {
	if a.Kind < 1 || a.Kind > 12 {
		return false
	}
	if a.Kind <= 3 {
		return a.Of == 0
	}
	return a.Of >= 1 && a.Of <= 65536
}

// model is books as the chapter's words say: all entries, and which were reversed or reverse one. Balances are summed anew each time.
type model struct {
	entries [][]api.Line
	paired  []bool
}

func (m *model) balance(a api.Account) *big.Int {
	sum := new(big.Int)
	for _, e := range m.entries {
		for _, l := range e {
			if l.Account == a {
				sum.Add(sum, big.NewInt(l.Amount))
			}
		}
	}
	return sum
}

// fault is what is told of posting.
func (m *model) fault(l []api.Line) error {
	if len(m.entries) == 4096 {
		return api.ErrFull
	}
	if len(l) == 0 || len(l) > 32 {
		return api.ErrArg
	}
	sum := new(big.Int)
	for _, x := range l {
		if !there(x.Account) || x.Amount == 0 {
			return api.ErrArg
		}
		sum.Add(sum, big.NewInt(x.Amount))
	}
	if sum.Sign() != 0 {
		return api.ErrForm
	}
	for i, x := range l {
		behind := m.balance(x.Account)
		for _, y := range l[:i+1] {
			if y.Account == x.Account {
				behind.Add(behind, big.NewInt(y.Amount))
			}
		}
		if x.Amount == least || !behind.IsInt64() {
			return api.ErrOver
		}
	}
	return nil
}

func (m *model) post(l []api.Line) (int, error) {
	if err := m.fault(l); err != nil {
		return 0, err
	}
	m.entries = append(m.entries, slices.Clone(l))
	m.paired = append(m.paired, false)
	return len(m.entries) - 1, nil
}

func (m *model) reverse(n int) (int, error) {
	if n < 0 || n >= len(m.entries) {
		return 0, api.ErrNone
	}
	if m.paired[n] {
		return 0, api.ErrTwice
	}
	var turned []api.Line
	for _, l := range m.entries[n] {
		turned = append(turned, line(l.Account, -l.Amount))
	}
	place, err := m.post(turned)
	if err == nil {
		m.paired[n], m.paired[place] = true, true
	}
	return place, err
}

// trial are all balances that aren't 0, by Kind, then by Of.
func (m *model) trial() []api.Line {
	var all []api.Line
	for _, e := range m.entries {
		for _, l := range e {
			x := line(l.Account, m.balance(l.Account).Int64())
			if x.Amount != 0 && !slices.Contains(all, x) {
				all = append(all, x)
			}
		}
	}
	slices.SortFunc(all, func(x, y api.Line) int {
		if x.Account.Kind != y.Account.Kind {
			return x.Account.Kind - y.Account.Kind
		}
		return x.Account.Of - y.Account.Of
	})
	return all
}

func (m *model) clone() *model {
	c := &model{paired: slices.Clone(m.paired)}
	for _, e := range m.entries {
		c.entries = append(c.entries, slices.Clone(e))
	}
	return c
}

// check holds books against a model: all that can be asked of them.
func (m *model) check(t *testing.T, b *book.Book, what string) {
	t.Helper()
	if b.Len() != len(m.entries) {
		t.Fatalf("%s: Len %d; want %d", what, b.Len(), len(m.entries))
	}
	for n, want := range m.entries {
		if e, err := b.Entry(n); err != nil || !slices.Equal(e, want) {
			t.Fatalf("%s: Entry(%d): %v, %v; want %v", what, n, e, err, want)
		}
	}
	want := m.trial()
	if told := b.Trial(); !slices.Equal(told, want) {
		t.Fatalf("%s: Trial %v; want %v", what, told, want)
	}
	for _, e := range m.entries {
		for _, l := range e {
			if v := b.Balance(l.Account); m.balance(l.Account).Cmp(big.NewInt(v)) != 0 {
				t.Fatalf("%s: Balance(%v): %d; want %d", what, l.Account, v, m.balance(l.Account))
			}
		}
	}
}

// both are books and their model, which are done to alike.
type both struct {
	b *book.Book
	m *model
}

func fresh(t *testing.T) both {
	t.Helper()
	b := book.New()
	if b == nil {
		t.Fatal("no books")
	}
	return both{b, &model{}}
}

// post posts to both, and holds what is told against each other; it tells the error.
func (x both) post(t *testing.T, l ...api.Line) error {
	t.Helper()
	before := slices.Clone(l)
	want, fault := x.m.post(l)
	n, err := x.b.Post(l...)
	if n != want || err != fault {
		t.Fatalf("Post(%v): %d, %v; want %d, %v", l, n, err, want, fault)
	}
	if !slices.Equal(l, before) {
		t.Fatalf("Post(%v) made it %v", before, l)
	}
	return err
}

func (x both) reverse(t *testing.T, n int) error {
	t.Helper()
	want, fault := x.m.reverse(n)
	place, err := x.b.Reverse(n)
	if place != want || err != fault {
		t.Fatalf("Reverse(%d): %d, %v; want %d, %v", n, place, err, want, fault)
	}
	return err
}

func (x both) clone() both { return both{x.b.Clone(), x.m.clone()} }

func (x both) check(t *testing.T, what string) {
	t.Helper()
	x.m.check(t, x.b, what)
}

// wants holds an error against the one that is wanted.
func wants(t *testing.T, err, want error, what string) {
	t.Helper()
	if err != want {
		t.Fatalf("%s: %v; want %v", what, err, want)
	}
}

// fill posts entries till there are so many: cash and trust go to and fro.
func (x both) fill(t *testing.T, n int) {
	t.Helper()
	for i := x.b.Len(); i < n; i++ {
		amount := int64(1 - i%2*2)
		l := []api.Line{line(cash, amount), line(trust, -amount)}
		if place, err := x.b.Post(l...); place != i || err != nil {
			t.Fatalf("Post %d: %d, %v", i, place, err)
		}
		x.m.entries = append(x.m.entries, l)
		x.m.paired = append(x.m.paired, false)
	}
}

// many are so many lines that sum to 0, of which no two have the same account.
func many(n int) []api.Line {
	var l []api.Line
	for of := 1; of < n; of++ {
		l = append(l, line(api.Account{Kind: 12, Of: of}, 7))
	}
	return append(l, line(cash, int64(-7*(n-1))))
}

// The chapter's example.
func TestExample(t *testing.T) {
	b := book.New()
	if n, err := b.Post(line(cash, 5), line(escrow, -5)); n != 0 || err != nil {
		t.Errorf("Post: %d, %v", n, err)
	}
	if told := b.Trial(); !slices.Equal(told, []api.Line{line(cash, 5), line(escrow, -5)}) {
		t.Errorf("Trial: %v", told)
	}
}

// P10.3: books at first.
func TestNewAreEmpty(t *testing.T) {
	x := fresh(t)
	x.check(t, "new books")
	if v := x.b.Balance(cash); v != 0 {
		t.Errorf("Balance %d", v)
	}
	if l, err := x.b.Entry(0); len(l) != 0 || err != api.ErrNone {
		t.Errorf("Entry(0): %v, %v", l, err)
	}
	wants(t, x.reverse(t, 0), api.ErrNone, "Reverse(0)")
	wants(t, x.post(t, line(cash, 1), line(own, -1)), nil, "Post")
	if other := book.New(); other.Len() != 0 || other.Balance(cash) != 0 || len(other.Trial()) != 0 {
		t.Errorf("other new books have %d entries, %v", other.Len(), other.Trial())
	}
}

// P10.1: entries stand one behind the other, with their lines as they were posted.
func TestPlacesFromNought(t *testing.T) {
	x := fresh(t)
	for n, l := range [][]api.Line{
		{line(cash, 5), line(escrow, -5)},
		{line(escrow, 3), line(cash, -3)},
		{line(cash, 1), line(cash, 1), line(cash, 1), line(loan, -3)},
		{line(cash, 9), line(cash, -9)},
		{line(loan, greatest), line(own, -greatest)},
	} {
		wants(t, x.post(t, l...), nil, "Post")
		if x.b.Len() != n+1 {
			t.Errorf("Len %d; want %d", x.b.Len(), n+1)
		}
		x.check(t, "entries")
	}
}

// P10.1: each number of lines around its limits.
func TestPostLines(t *testing.T) {
	for n := range 100 {
		x := fresh(t)
		var l []api.Line
		want := error(api.ErrArg)
		if n > 0 {
			l = many(n)
		}
		if n == 1 {
			l[0].Amount = 7
			want = api.ErrForm // a single line that isn't 0 doesn't sum to 0
		}
		if n >= 2 && n <= 32 {
			want = nil
		}
		wants(t, x.post(t, l...), want, "Post")
		x.check(t, "Post")
	}
}

// P10.1: accounts that there are, and those that aren't, at each place of the lines.
func TestPostAccounts(t *testing.T) {
	numbers := []int{least, least + 1, math.MinInt32, -65536, -12, -1, 0, 1, 2, 3, 4, 5, 11, 12, 13, 14, 64, 65, 65535, 65536, 65537, math.MaxInt32, 1 << 32, 1<<32 + 1, greatest}
	for _, kind := range numbers {
		for _, of := range numbers {
			a := api.Account{Kind: kind, Of: of}
			for place := range 3 {
				x := fresh(t)
				l := []api.Line{line(own, -4), line(own, 5), line(own, 6)}
				l[place].Account, l[place].Amount = a, 0
				l[place].Amount = -(l[0].Amount + l[1].Amount + l[2].Amount)
				want := error(api.ErrArg)
				if there(a) {
					want = nil
				}
				wants(t, x.post(t, l...), want, "Post")
				if v, told := x.b.Balance(a), x.m.balance(a); v != told.Int64() {
					t.Errorf("Balance(%v): %d; want %d", a, v, told)
				}
			}
		}
	}
}

// P10.1: amounts of 0, at each place.
func TestPostNought(t *testing.T) {
	for n := 1; n <= 32; n++ {
		for place := range n {
			x := fresh(t)
			wants(t, x.post(t, line(cash, 1), line(trust, -1)), nil, "Post")
			l := many(n)
			l[place].Amount = 0
			wants(t, x.post(t, l...), api.ErrArg, "Post")
			x.check(t, "Post of 0")
		}
	}
	x := fresh(t)
	wants(t, x.post(t, line(cash, 0)), api.ErrArg, "Post of a single 0")
	wants(t, x.post(t, line(cash, 0), line(cash, 0)), api.ErrArg, "Post of 0s")
	x.check(t, "Post of 0s")
}

// P10.1: what sums to 0, and what doesn't: also where a sum of parts, or the whole, has no room.
func TestPostSums(t *testing.T) {
	for _, r := range []struct {
		amounts []int64
		want    error
	}{
		{[]int64{1}, api.ErrForm},
		{[]int64{-1}, api.ErrForm},
		{[]int64{1, 1}, api.ErrForm},
		{[]int64{1, -2}, api.ErrForm},
		{[]int64{1, -1}, nil},
		{[]int64{5, -2, -3}, nil},
		{[]int64{5, -2, -4}, api.ErrForm},
		{[]int64{greatest, -greatest}, nil},
		{[]int64{greatest, least}, api.ErrForm},
		{[]int64{greatest, greatest}, api.ErrForm},
		{[]int64{greatest, greatest, 2}, api.ErrForm}, // 2^64
		{[]int64{least, least}, api.ErrForm},          // -2^64
		{[]int64{-greatest, -greatest, -2}, api.ErrForm},
		{[]int64{1 << 62, 1 << 62, 1 << 62, 1 << 62}, api.ErrForm},
		{[]int64{greatest, greatest, -greatest, -greatest}, nil},
		{[]int64{-greatest, -greatest, greatest, greatest}, nil},
		{[]int64{greatest, 1, -greatest, -1}, nil},
		{[]int64{-greatest, -greatest, -greatest, greatest, greatest, greatest}, nil},
	} {
		x := fresh(t)
		var l []api.Line
		for i, amount := range r.amounts {
			l = append(l, line(api.Account{Kind: 6, Of: 9 - i}, amount))
		}
		wants(t, x.post(t, l...), r.want, "Post")
		x.check(t, "Post")
	}
}

// P10.1: balances that have room, line by line, and those that haven't, from balances that stand.
func TestPostRoom(t *testing.T) {
	for _, r := range []struct {
		what       string
		cash, loan int64 // what stands
		lines      []api.Line
		want       error
	}{
		{"up to the greatest", greatest - 5, 0, []api.Line{line(cash, 5), line(own, -5)}, nil},
		{"one above", greatest - 5, 0, []api.Line{line(cash, 6), line(own, -6)}, api.ErrOver},
		{"one above, behind another line", greatest - 5, 0, []api.Line{line(own, -6), line(cash, 6)}, api.ErrOver},
		{"down to the least", -greatest, 0, []api.Line{line(cash, -1), line(own, 1)}, nil},
		{"one below", -greatest, 0, []api.Line{line(cash, -2), line(own, 2)}, api.ErrOver},
		{"the last line alone", greatest, 0, []api.Line{line(own, -3), line(trust, 2), line(cash, 1)}, api.ErrOver},
		{"too much first, and back", greatest, 0, []api.Line{line(cash, 1), line(cash, -1)}, api.ErrOver},
		{"back first", greatest, 0, []api.Line{line(cash, -1), line(cash, 1)}, nil},
		{"too little first, and back", -greatest, 0, []api.Line{line(cash, -2), line(cash, 2)}, api.ErrOver},
		{"forth first", -greatest, 0, []api.Line{line(cash, 2), line(cash, -2)}, nil},
		{"in two lines", greatest - 5, 0, []api.Line{line(cash, 3), line(own, -6), line(cash, 3)}, api.ErrOver},
		{"in two lines, with room", greatest - 5, 0, []api.Line{line(cash, 3), line(own, -5), line(cash, 2)}, nil},
		{"twice the greatest between", 0, 0, []api.Line{line(cash, greatest), line(cash, greatest), line(own, -greatest), line(cash, -greatest)}, api.ErrOver},
		{"the greatest twice, one behind the other", 0, 0, []api.Line{line(cash, greatest), line(cash, -greatest), line(cash, greatest), line(cash, -greatest)}, nil},
		{"another account's balance", greatest, 0, []api.Line{line(loan, greatest), line(own, -greatest)}, nil},
		{"the other one of two", 0, -greatest, []api.Line{line(cash, 2), line(loan, -2)}, api.ErrOver},
		{"the least amount", 0, 0, []api.Line{line(cash, least), line(own, 1<<62), line(trust, 1<<62)}, api.ErrOver},
		{"the least amount, last", 0, 0, []api.Line{line(own, 1<<62), line(trust, 1<<62), line(cash, least)}, api.ErrOver},
		{"the least amount, that has room", greatest, 0, []api.Line{line(cash, least), line(own, greatest), line(trust, 1)}, api.ErrOver},
		{"the least amount, of one account", 0, 0, []api.Line{line(own, greatest), line(own, least), line(own, 1)}, api.ErrOver},
	} {
		x := fresh(t)
		for _, s := range []api.Line{line(cash, r.cash), line(loan, r.loan)} {
			if s.Amount != 0 {
				wants(t, x.post(t, s, line(escrow, -s.Amount)), nil, r.what)
			}
		}
		wants(t, x.post(t, r.lines...), r.want, r.what)
		x.check(t, r.what)
	}
}

// P10.1, R1: the error that is named first.
func TestPostFirstError(t *testing.T) {
	x := fresh(t)
	none := api.Account{Kind: 13}
	wants(t, x.post(t, line(cash, greatest), line(own, -greatest)), nil, "Post")
	long := slices.Repeat([]api.Line{line(cash, greatest)}, 33)
	for what, l := range map[string][]api.Line{
		"no lines":                     nil,
		"too many that sum to nothing": long,
		"no account, and no 0":         {line(none, 5), line(cash, 1)},
		"no account, and no room":      {line(cash, 1), line(none, -1)},
		"0, and no 0 in all":           {line(cash, 1), line(own, 0)},
		"0, and no room":               {line(cash, 1), line(own, -1), line(trust, 0)},
		"the least, and no account":    {line(cash, least), line(none, greatest), line(own, 1)},
		"the least, and 0":             {line(cash, least), line(own, 0)},
	} {
		wants(t, x.post(t, l...), api.ErrArg, what)
	}
	wants(t, x.post(t, line(cash, 1), line(own, 1)), api.ErrForm, "no room, and no 0")
	wants(t, x.post(t, line(cash, least)), api.ErrForm, "the least, and no 0")
	wants(t, x.post(t, line(cash, least), line(own, greatest)), api.ErrForm, "the least and the greatest")
	x.check(t, "errors")
}

// P10.1, P10.2: so many entries and no more; a full book tells so ahead of all but what Reverse asks first.
func TestFull(t *testing.T) {
	x := fresh(t)
	x.fill(t, 4093)
	wants(t, x.reverse(t, 7), nil, "Reverse")
	wants(t, x.post(t), api.ErrArg, "Post ahead of the last one")
	wants(t, x.post(t, line(loan, 9), line(own, greatest-2), line(cash, 2-greatest), line(escrow, -9)), nil, "Post")
	wants(t, x.post(t, line(loan, 9), line(escrow, -9)), nil, "Post of the last one")
	if x.b.Len() != 4096 {
		t.Fatalf("Len %d", x.b.Len())
	}
	for _, l := range [][]api.Line{
		{line(cash, 1), line(trust, -1)},
		{},
		{line(cash, 0)},
		{line(cash, 1)},
		{line(cash, greatest), line(trust, -greatest)},
		slices.Repeat([]api.Line{line(cash, 1)}, 33),
	} {
		wants(t, x.post(t, l...), api.ErrFull, "Post to full books")
	}
	wants(t, x.reverse(t, 8), api.ErrFull, "Reverse in full books")
	wants(t, x.reverse(t, 4095), api.ErrFull, "Reverse of the last one")
	wants(t, x.reverse(t, 7), api.ErrTwice, "Reverse of what was reversed")
	wants(t, x.reverse(t, 4093), api.ErrTwice, "Reverse of what reverses one")
	wants(t, x.reverse(t, 4096), api.ErrNone, "Reverse of none")
	wants(t, x.reverse(t, -1), api.ErrNone, "Reverse of none")
	c := x.b.Clone()
	if n, err := c.Post(line(cash, 1), line(trust, -1)); n != 0 || err != api.ErrFull {
		t.Errorf("Post to a full clone: %d, %v", n, err)
	}
	if told, want := x.b.Trial(), x.m.trial(); !slices.Equal(told, want) || !slices.Equal(c.Trial(), want) {
		t.Errorf("Trial %v, of the clone %v; want %v", told, c.Trial(), want)
	}
	for n, want := range x.m.entries {
		if e, err := x.b.Entry(n); err != nil || !slices.Equal(e, want) {
			t.Errorf("Entry(%d): %v, %v; want %v", n, e, err, want)
		}
	}
}

// P10.2: the last place is one for a reversal too.
func TestReverseIsTheLastOne(t *testing.T) {
	x := fresh(t)
	x.fill(t, 4095)
	wants(t, x.reverse(t, 4094), nil, "Reverse")
	wants(t, x.reverse(t, 4093), api.ErrFull, "Reverse")
	if x.b.Len() != 4096 {
		t.Errorf("Len %d", x.b.Len())
	}
}

// P10.2, P10.5: the lines of a reversal, its place, and what it leaves.
func TestReverse(t *testing.T) {
	x := fresh(t)
	wants(t, x.post(t, line(cash, 10), line(loan, -10)), nil, "Post")
	before := x.b.Trial()
	wants(t, x.post(t, line(own, 3), line(escrow, -1), line(cash, 4), line(own, -6)), nil, "Post")
	wants(t, x.post(t, many(32)...), nil, "Post")
	wants(t, x.reverse(t, 2), nil, "Reverse")
	wants(t, x.reverse(t, 1), nil, "Reverse")
	if e, err := x.b.Entry(4); err != nil || !slices.Equal(e, []api.Line{line(own, -3), line(escrow, 1), line(cash, -4), line(own, 6)}) {
		t.Errorf("Entry(4): %v, %v", e, err)
	}
	if after := x.b.Trial(); !slices.Equal(after, before) {
		t.Errorf("Trial %v; want %v", after, before)
	}
	x.check(t, "what was reversed")
	for _, n := range []int{1, 2, 3, 4} {
		wants(t, x.reverse(t, n), api.ErrTwice, "Reverse once more")
	}
	for _, n := range []int{least, math.MinInt32, -2, -1, 5, 6, 4096, 1 << 32, greatest} {
		wants(t, x.reverse(t, n), api.ErrNone, "Reverse of none")
	}
	x.check(t, "what was refused")
	wants(t, x.reverse(t, 0), nil, "Reverse")
	if after := x.b.Trial(); len(after) != 0 {
		t.Errorf("Trial %v; want none", after)
	}
	x.check(t, "all was reversed")
}

// P10.2: a reversal that has no room is refused, does nothing, and may be asked for later on.
func TestReverseRoom(t *testing.T) {
	x := fresh(t)
	wants(t, x.post(t, line(trust, 8), line(cash, 5), line(escrow, -13)), nil, "Post")
	wants(t, x.post(t, line(cash, -greatest), line(own, greatest)), nil, "Post")
	wants(t, x.post(t, line(cash, -5), line(loan, 5)), nil, "Post")
	wants(t, x.reverse(t, 0), api.ErrOver, "Reverse without room")
	x.check(t, "refused")
	wants(t, x.post(t, line(cash, 3), line(loan, -3)), nil, "Post")
	wants(t, x.reverse(t, 0), api.ErrOver, "Reverse without room")
	wants(t, x.post(t, line(cash, 1), line(loan, -1)), nil, "Post")
	wants(t, x.reverse(t, 0), nil, "Reverse, with room down to the least")
	if v := x.b.Balance(cash); v != least {
		t.Errorf("Balance %d; want the least", v)
	}
	wants(t, x.reverse(t, 0), api.ErrTwice, "Reverse once more")
	x.check(t, "reversed")
}

// P10.2: a reversal's lines go line by line too, in the entry's order.
func TestReverseLineByLine(t *testing.T) {
	x := fresh(t)
	wants(t, x.post(t, line(cash, -1), line(cash, 1)), nil, "Post")
	wants(t, x.post(t, line(cash, 1), line(cash, -1)), nil, "Post")
	wants(t, x.post(t, line(cash, greatest), line(own, -greatest)), nil, "Post")
	wants(t, x.reverse(t, 0), api.ErrOver, "Reverse that goes above first")
	wants(t, x.reverse(t, 1), nil, "Reverse that goes back first")
	x.check(t, "line by line")
}

// P10.2: the greatest amounts that may be posted have ones of the other sign.
func TestReverseGreatest(t *testing.T) {
	x := fresh(t)
	wants(t, x.post(t, line(cash, -greatest), line(own, greatest)), nil, "Post")
	wants(t, x.reverse(t, 0), nil, "Reverse")
	wants(t, x.post(t, line(cash, greatest), line(own, -greatest)), nil, "Post")
	wants(t, x.reverse(t, 2), nil, "Reverse")
	x.check(t, "reversed")
}

// P10.3: no entry, no account, and accounts of balance 0.
func TestTold(t *testing.T) {
	x := fresh(t)
	wants(t, x.post(t, line(cash, 5), line(escrow, -5)), nil, "Post")
	wants(t, x.post(t, line(cash, -5), line(trust, 5)), nil, "Post")
	for _, n := range []int{least, -1, 2, 3, 1 << 32, greatest} {
		if l, err := x.b.Entry(n); len(l) != 0 || err != api.ErrNone {
			t.Errorf("Entry(%d): %v, %v", n, l, err)
		}
	}
	for _, a := range []api.Account{
		{}, cash, own, loan, {Kind: 1, Of: 1}, {Kind: 2, Of: 5}, {Kind: 5}, {Kind: 5, Of: 2}, {Kind: 4, Of: 1}, {Kind: 6, Of: 1},
		{Kind: 13, Of: 1}, {Kind: -5, Of: 1}, {Kind: 5, Of: 65537}, {Kind: least, Of: least}, {Kind: greatest, Of: greatest}, {Kind: 1<<32 + 2},
	} {
		if v := x.b.Balance(a); v != 0 {
			t.Errorf("Balance(%v): %d", a, v)
		}
	}
	if v := x.b.Balance(escrow); v != -5 {
		t.Errorf("Balance of escrow: %d", v)
	}
	if told := x.b.Trial(); !slices.Equal(told, []api.Line{line(trust, 5), line(escrow, -5)}) {
		t.Errorf("Trial %v", told)
	}
}

// P10.3: by Kind, then by Of as a number, whatever the order of posting.
func TestTrialOrder(t *testing.T) {
	var all []api.Account
	for kind := 1; kind <= 12; kind++ {
		for _, of := range []int{0, 1, 2, 9, 10, 11, 64, 100, 1000, 65535, 65536} {
			if a := (api.Account{Kind: kind, Of: of}); there(a) {
				all = append(all, a)
			}
		}
	}
	r := rand.New(rand.NewSource(1))
	for range 50 {
		x := fresh(t)
		for _, i := range r.Perm(len(all)) {
			j := r.Intn(len(all))
			amount := int64(i*len(all) + j + 1)
			wants(t, x.post(t, line(all[i], amount), line(all[j], -amount)), nil, "Post")
		}
		want := x.m.trial()
		for range 5 {
			if told := x.b.Trial(); !slices.Equal(told, want) {
				t.Fatalf("Trial %v; want %v", told, want)
			}
		}
	}
}

// P10.4: clones stand alike, and whatever is done to one, and told of it, leaves the others.
func TestClone(t *testing.T) {
	x := fresh(t)
	empty := x.clone()
	wants(t, x.post(t, line(cash, 5), line(escrow, -5)), nil, "Post")
	wants(t, x.post(t, line(cash, 2), line(trust, -2)), nil, "Post")
	wants(t, x.reverse(t, 0), nil, "Reverse")
	y := x.clone()
	empty.check(t, "a clone of nothing")
	x.check(t, "cloned")
	y.check(t, "a clone")
	wants(t, y.reverse(t, 0), api.ErrTwice, "Reverse of what was reversed ahead of it")
	wants(t, y.reverse(t, 2), api.ErrTwice, "Reverse of what reversed ahead of it")
	wants(t, y.reverse(t, 1), nil, "Reverse in the clone")
	x.check(t, "the clone was reversed in")
	wants(t, x.post(t, line(own, 1), line(loan, -1)), nil, "Post")
	y.check(t, "the first was posted to")
	z := y.clone()
	wants(t, y.post(t, line(own, 8), line(escrow, -8)), nil, "Post to the clone")
	wants(t, z.post(t, line(cash, 9), line(escrow, -9)), nil, "Post to the clone's clone")
	wants(t, x.reverse(t, 1), nil, "Reverse in the first")
	wants(t, empty.post(t, line(own, 4), line(trust, -4)), nil, "Post to the clone of nothing")
	for _, o := range []both{x, y, z, empty} {
		o.check(t, "one of four")
	}
}

// P10.4, R2: what was handed in may be changed by whoever did, and stays as it is for us.
func TestHandedIn(t *testing.T) {
	x := fresh(t)
	all := []api.Line{line(cash, 5), line(escrow, -5), line(own, 1), line(own, 2)}
	kept := slices.Clone(all)
	wants(t, x.post(t, all[:2]...), nil, "Post")
	wants(t, x.reverse(t, 0), nil, "Reverse")
	wants(t, x.post(t, all[2:3]...), api.ErrForm, "Post")
	if !slices.Equal(all, kept) {
		t.Errorf("handed in %v, and it became %v", kept, all)
	}
	y := x.clone()
	clear(all)
	x.check(t, "what was handed in is cleared")
	y.check(t, "of the clone")
}

// P10.4, R2: what is told is new memory each time.
func TestToldIsNew(t *testing.T) {
	x := fresh(t)
	wants(t, x.post(t, line(cash, 5), line(escrow, -5)), nil, "Post")
	wants(t, x.post(t, line(cash, 1), line(loan, -1)), nil, "Post")
	y := x.clone()
	for range 2 {
		for n := range 2 {
			l, err := x.b.Entry(n)
			wants(t, err, nil, "Entry")
			clear(l[:cap(l)])
		}
		told := x.b.Trial()
		clear(told[:cap(told)])
	}
	x.check(t, "what was told is cleared")
	y.check(t, "of the clone")
	wants(t, y.reverse(t, 0), nil, "Reverse")
	x.check(t, "the clone was reversed in")
	y.check(t, "of the clone")
}

// P10.1 to P10.5: long ways of doing, of small amounts and of such as have no room, with clones among them.
func TestLongWays(t *testing.T) {
	r := rand.New(rand.NewSource(2))
	seen := map[error]int{}
	for way := range 150 {
		all := []both{fresh(t)}
		for range 60 {
			x := all[r.Intn(len(all))]
			switch k := r.Intn(20); {
			case k == 0 && len(all) < 4:
				all = append(all, x.clone())
			case k < 8:
				seen[x.reverse(t, r.Intn(x.b.Len()+3)-1)]++
			default:
				seen[x.post(t, anyLines(r, way%2 == 0)...)]++
			}
			x.check(t, "a long way")
			checkSum(t, x.b)
		}
		for _, x := range all {
			x.check(t, "at the end of a way")
		}
	}
	for _, err := range []error{nil, api.ErrArg, api.ErrForm, api.ErrOver, api.ErrNone, api.ErrTwice} {
		if seen[err] < 50 {
			t.Errorf("%v was told %d times alone", err, seen[err])
		}
	}
}

// anyLines are lines that mostly sum to 0.
func anyLines(r *rand.Rand, small bool) []api.Line {
	accounts := []api.Account{cash, own, escrow, loan, {Kind: 5, Of: 2}}
	amounts := []int64{greatest, -greatest, 1 << 62, -1 << 62, least, 1, -1, greatest - 1}
	var l []api.Line
	left := new(big.Int)
	for range r.Intn(5) {
		amount := r.Int63n(20) - 8
		if !small {
			amount = amounts[r.Intn(len(amounts))]
		}
		left.Sub(left, big.NewInt(amount))
		l = append(l, line(accounts[r.Intn(len(accounts))], amount))
	}
	if r.Intn(8) > 0 && left.IsInt64() && left.Sign() != 0 {
		l = append(l, line(accounts[r.Intn(len(accounts))], left.Int64()))
	}
	if len(l) > 0 && r.Intn(20) == 0 {
		l[r.Intn(len(l))].Account.Of = 65537
	}
	return l
}

// checkSum holds P10.5: balances sum to 0.
func checkSum(t *testing.T, b *book.Book) {
	t.Helper()
	sum := new(big.Int)
	for _, l := range b.Trial() {
		sum.Add(sum, big.NewInt(l.Amount))
	}
	if sum.Sign() != 0 {
		t.Fatalf("balances sum to %d", sum)
	}
}

// P10.5: all reversed, from the last one on, or from the first, leaves no balance.
func TestAllReversed(t *testing.T) {
	for _, backward := range []bool{true, false} {
		r := rand.New(rand.NewSource(3))
		x := fresh(t)
		for x.b.Len() < 100 {
			x.post(t, anyLines(r, true)...)
		}
		for i := range 100 {
			n := i
			if backward {
				n = 99 - i
			}
			wants(t, x.reverse(t, n), nil, "Reverse")
			checkSum(t, x.b)
		}
		if told := x.b.Trial(); len(told) != 0 {
			t.Errorf("Trial %v; want none", told)
		}
		x.check(t, "all was reversed")
	}
}
