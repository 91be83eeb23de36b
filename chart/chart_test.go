package chart_test

import (
	"math"
	"math/rand"
	"strconv"
	"strings"
	"sync"
	"testing"

	"trivet/api"
	"trivet/chart"
)

// rows are the chapter's table: each kind's name, whether it is of nobody, and whether its side is debit.
var rows = []struct {
	kind          int
	name          string
	nobody, debit bool
}{
	{1, "cash", true, true},
	{2, "trust", true, true},
	{3, "own", true, true},
	{4, "investor", false, false},
	{5, "escrow", false, false},
	{6, "suspense", false, false},
	{7, "advance", false, true},
	{8, "fee", false, false},
	{9, "guaranty", false, false},
	{10, "late", false, false},
	{11, "principal", false, false},
	{12, "loan", false, true},
}

// known is what is known of an account that there is.
type known struct {
	name  string
	debit bool
}

// accounts are all that there are, written out, and parsed is the account of each name.
var accounts = sync.OnceValue(func() map[api.Account]known {
	all := map[api.Account]known{}
	for _, r := range rows {
		if r.nobody {
			all[api.Account{Kind: r.kind}] = known{r.name, r.debit}
			continue
		}
		for of := 1; of <= 65536; of++ {
			all[api.Account{Kind: r.kind, Of: of}] = known{r.name + "." + strconv.Itoa(of), r.debit}
		}
	}
	return all
})

var parsed = sync.OnceValue(func() map[string]api.Account {
	all := map[string]api.Account{}
	for a, k := range accounts() {
		all[k.name] = a
	}
	return all
})

// edges are numbers at which something might turn, or go round.
var edges = []int{
	math.MinInt, math.MinInt + 1, math.MinInt32, -65536, -12, -7, -2, -1,
	0, 1, 2, 3, 4, 5, 7, 8, 9, 10, 11, 12, 13, 14, 64, 65, 99, 100,
	65535, 65536, 65537, 1<<17 + 1, math.MaxInt32, 1 << 32, 1<<32 + 1, 1<<32 + 5, math.MaxInt - 1, math.MaxInt,
}

// eachAccount calls with all accounts that there are, with others beside them, and with such of all edges.
func eachAccount(call func(a api.Account)) {
	for kind := -1; kind <= 14; kind++ {
		for of := -1; of <= 65538; of++ {
			call(api.Account{Kind: kind, Of: of})
		}
	}
	for _, kind := range edges {
		for _, of := range edges {
			call(api.Account{Kind: kind, Of: of})
		}
	}
}

// checkParse holds what is parsed against all names.
func checkParse(t *testing.T, s string) {
	t.Helper()
	a, err := chart.Parse(s)
	want, there := parsed()[s]
	if there && (a != want || err != nil) {
		t.Errorf("Parse(%q) is %v, %v, not %v", s, a, err, want)
	}
	if !there && (a != api.Account{} || err != api.ErrForm) {
		t.Errorf("Parse(%q) is %v, %v, and it is no name", s, a, err)
	}
}

// P9.1
func TestAccountsAreThoseOfTheTable(t *testing.T) {
	n := 0
	eachAccount(func(a api.Account) {
		k, there := accounts()[a]
		if chart.May(a) != there {
			t.Errorf("May(%v) is %v", a, !there)
		}
		if chart.Debit(a) != k.debit {
			t.Errorf("Debit(%v) is %v", a, !k.debit)
		}
		n++
	})
	if n < len(accounts()) || len(accounts()) != 3+9*65536 {
		t.Errorf("%d accounts were asked for, of %d", n, len(accounts()))
	}
}

// P9.1: by Kind, then by Of, whether there are those accounts or not.
func TestAccountsStandByKindThenByOf(t *testing.T) {
	var all []api.Account
	for _, kind := range edges {
		for _, of := range edges {
			all = append(all, api.Account{Kind: kind, Of: of})
		}
	}
	// edges rise, so of two accounts that one is ahead whose place is.
	for i, a := range all {
		for j, b := range all {
			if chart.Less(a, b) != (i < j) {
				t.Fatalf("Less(%v, %v) is %v", a, b, i >= j)
			}
		}
	}
}

// P9.3: of two that aren't the same one stands ahead, and never both; nor does one stand ahead of itself.
func TestOfTwoOneStandsAhead(t *testing.T) {
	random := rand.New(rand.NewSource(9))
	pick := func() api.Account {
		return api.Account{Kind: random.Intn(4) + 3, Of: random.Intn(4)}
	}
	for range 2000 {
		a, b, c := pick(), pick(), pick()
		if (chart.Less(a, b) != chart.Less(b, a)) != (a != b) {
			t.Errorf("%v and %v: %v, %v", a, b, chart.Less(a, b), chart.Less(b, a))
		}
		if chart.Less(a, b) && chart.Less(b, c) && !chart.Less(a, c) {
			t.Errorf("%v, %v, %v stand in a ring", a, b, c)
		}
	}
}

// P9.2, and the chapter's example.
func TestNamesAreTheKindsAndOf(t *testing.T) {
	for _, c := range []struct {
		kind, of int
		name     string
	}{
		{api.AccCash, 0, "cash"},
		{api.AccTrust, 0, "trust"},
		{api.AccOwn, 0, "own"},
		{api.AccInvestor, 64, "investor.64"},
		{api.AccInvestor, 65, "investor.65"},
		{api.AccEscrow, 7, "escrow.7"},
		{api.AccSuspense, 10, "suspense.10"},
		{api.AccAdvance, 100, "advance.100"},
		{api.AccFee, 99, "fee.99"},
		{api.AccGuaranty, 12345, "guaranty.12345"},
		{api.AccLate, 65535, "late.65535"},
		{api.AccPrincipal, 1, "principal.1"},
		{api.AccLoan, api.MaxOf, "loan.65536"},
	} {
		a := api.Account{Kind: c.kind, Of: c.of}
		if s, err := chart.Name(a); s != c.name || err != nil {
			t.Errorf("Name(%v) is %q, %v, not %q", a, s, err, c.name)
		}
		if b, err := chart.Parse(c.name); a != b || err != nil {
			t.Errorf("Parse(%q) is %v, %v, not %v", c.name, b, err, a)
		}
	}
}

// P9.2: Name of all accounts, and of what is none: the zero value with an error (R3).
func TestNameOfAll(t *testing.T) {
	eachAccount(func(a api.Account) {
		s, err := chart.Name(a)
		k, there := accounts()[a]
		if there && (s != k.name || err != nil) {
			t.Errorf("Name(%v) is %q, %v, not %q", a, s, err, k.name)
		}
		if !there && (s != "" || err != api.ErrArg) {
			t.Errorf("Name(%v) is %q, %v, and there is no such account", a, s, err)
		}
	})
}

// P9.2, P9.3: Parse of all names; what is named is parsed as it was, and the other way round.
func TestParseOfAllNames(t *testing.T) {
	for s, want := range parsed() {
		a, err := chart.Parse(s)
		if a != want || err != nil {
			t.Errorf("Parse(%q) is %v, %v, not %v", s, a, err, want)
		}
		if told, err := chart.Name(a); told != s || err != nil {
			t.Errorf("Name(Parse(%q)) is %q, %v", s, told, err)
		}
	}
}

// P9.2: what is no account's name.
func TestParseOfNoNames(t *testing.T) {
	ends := []string{
		".", "..", ".0", ".00", ".1.", ".1.1", "..1", ".01", ".007", ".065536", ".+1", ".-1", ".-0", ".+0", ". 1", ".1 ", ".1\n", ".1\x00",
		".1_0", ".1e1", ".0x1", ".0b1", ".0o1", ".1,0", ".1.0", ".a", ".65537", ".65540", ".100000", ".131073",
		".4294967297", ".9223372036854775807", ".9223372036854775808", ".18446744073709551617", ".-18446744073709551615",
		"." + strings.Repeat("9", 4000), "." + strings.Repeat("0", 4000) + "1", ".\u0661", ".\uff11", ".\xff", "1", " 1", "/1", ":1", ",1", "\u20241",
		" ", "\x00", "s", "e",
	}
	for _, r := range rows {
		names := []string{
			" " + r.name, "." + r.name, strings.ToUpper(r.name), strings.ToUpper(r.name[:1]) + r.name[1:], r.name[1:], r.name[:len(r.name)-1],
			strconv.Itoa(r.kind), r.name + r.name, "\ufeff" + r.name,
		}
		for _, s := range ends {
			checkParse(t, r.name+s)
		}
		for _, name := range names {
			for _, s := range []string{"", ".1", ".65536"} {
				checkParse(t, name+s)
			}
		}
		checkParse(t, r.name)
		checkParse(t, r.name+".1")
	}
	for _, s := range append([]string{"", "\x00", "none", "none.1", "\xff\xfe", strings.Repeat("loan", 1000), strings.Repeat("loan.", 1000)}, ends...) {
		checkParse(t, s)
	}
}

// P9.2: names of all kinds, with a byte more, less, or another one at each place.
func TestParseOfNamesThatWereTouched(t *testing.T) {
	bytes := []byte("0123456789.+-_ aelns\x00\xff")
	for _, r := range rows {
		for _, of := range []string{"", ".1", ".10", ".6553", ".65536"} {
			s := r.name + of
			for i := range len(s) + 1 {
				for _, x := range bytes {
					checkParse(t, s[:i]+string([]byte{x})+s[i:])
				}
				if i == len(s) {
					continue
				}
				checkParse(t, s[:i]+s[i+1:])
				for _, x := range bytes {
					checkParse(t, s[:i]+string([]byte{x})+s[i+1:])
				}
			}
		}
	}
}

// P1, P9.2: bytes of any kind end in an answer.
func TestParseOfAnyBytes(t *testing.T) {
	const of = "cashtrustownfeelateloan.0123456789\xff\x00"
	random := rand.New(rand.NewSource(99))
	for range 20000 {
		b := make([]byte, random.Intn(12))
		for i := range b {
			b[i] = of[random.Intn(len(of))]
		}
		checkParse(t, string(b))
	}
}

// R2: what is answered hangs on the arguments alone, asked once or again.
func TestNothingIsKept(t *testing.T) {
	ask := func() (string, api.Account) {
		s, err := chart.Name(api.Account{Kind: api.AccFee, Of: 3})
		if err != nil {
			t.Error(err)
		}
		a, err := chart.Parse("fee.3")
		if err != nil {
			t.Error(err)
		}
		return s, a
	}
	s, a := ask()
	chart.Name(api.Account{Kind: api.AccLoan, Of: 9})
	chart.Name(api.Account{Kind: -1})
	chart.Parse("cash")
	chart.Parse("nothing.1")
	if again, b := ask(); s != again || a != b {
		t.Errorf("%q and %v were told first, then %q and %v", s, a, again, b)
	}
}
