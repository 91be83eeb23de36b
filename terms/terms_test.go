package terms_test

import (
	"math"
	"math/big"
	"math/rand"
	"sync"
	"testing"

	"trivet/api"
	"trivet/terms"
)

// firsts are the numbers of all firsts of months, one behind the other, as they are counted on from January 1, 1900: 25567 days ahead of January 1, 1970.
var firsts = sync.OnceValue(func() []int {
	var l []int
	number := -25567
	for y := 1900; y <= 2199; y++ {
		february := 28
		if y%400 == 0 || y%4 == 0 && y%100 != 0 {
			february = 29
		}
		for _, days := range []int{31, february, 31, 30, 31, 30, 31, 31, 30, 31, 30, 31} {
			l = append(l, number)
			number += days
		}
	}
	return l
})

// places are the places of the firsts of months among them.
var places = sync.OnceValue(func() map[int]int {
	all := map[int]int{}
	for i, n := range firsts() {
		all[n] = i
	}
	return all
})

// firstOf is the number of a month's first.
func firstOf(y, m int) int { return firsts()[12*(y-1900)+m-1] }

// plain are terms that may be: 200000 dollars at 6 % over 30 years, from 2020-02-01 on.
func plain() api.Terms {
	return api.Terms{Balance: 20_000_000, Rate: 60_000, Months: 360, First: 18293, Escrow: 25_000, Investor: 7, Remit: api.RemitSA, Fee: 2500, Guaranty: 1800}
}

// mayBe tells by the chapter's words whether terms may be, in numbers that have always room.
func mayBe(t api.Terms) bool {
	place, first := places()[t.First]
	both := new(big.Int).Add(big.NewInt(int64(t.Fee)), big.NewInt(int64(t.Guaranty)))
	switch {
	case t.Balance < 1, t.Balance > 10_000_000_000_000:
	case t.Rate < 0, t.Rate > 300_000:
	case t.Months < 1, t.Months > 480:
	case !first, place+t.Months >= 3600:
	case t.Escrow < 0, t.Escrow > 10_000_000_000_000:
	case t.Investor < 1, t.Investor > 64:
	case t.Remit != 1 && t.Remit != 2 && t.Remit != 3:
	case t.Fee < 0, t.Guaranty < 0, both.Cmp(big.NewInt(int64(t.Rate))) > 0:
	default:
		return true
	}
	return false
}

// hold holds Check, Net, and Due at its edges, of terms against the chapter's words; it tells whether the terms may be.
func hold(t *testing.T, x api.Terms) bool {
	t.Helper()
	may, place := mayBe(x), places()[x.First]
	wantErr, wantNet, wantLast := error(api.ErrArg), 0, 0
	if may {
		wantErr, wantNet, wantLast = nil, x.Rate-x.Fee-x.Guaranty, firsts()[place+x.Months]
	}
	if err := terms.Check(x); err != wantErr {
		t.Fatalf("Check(%+v): %v; want %v", x, err, wantErr)
	}
	if net := terms.Net(x); net != wantNet {
		t.Fatalf("Net(%+v): %d; want %d", x, net, wantNet)
	}
	if due, err := terms.Due(x, x.Months); err != wantErr || due != wantLast {
		t.Fatalf("Due(%+v, %d): %d, %v; want %d, %v", x, x.Months, due, err, wantLast, wantErr)
	}
	for _, n := range []int{-1, x.Months + 1} {
		if due, err := terms.Due(x, n); err != api.ErrArg || due != 0 {
			t.Fatalf("Due(%+v, %d): %d, %v; want %v", x, n, due, err, api.ErrArg)
		}
	}
	return may
}

// change is terms' change in one place.
type change func(x *api.Terms)

// changes are, place by place of terms, numbers at which something might turn, or go round.
func changes() [][]change {
	far := []int{math.MinInt, math.MinInt + 1, math.MinInt32, -1000, -1, 0, 1, 2, math.MaxInt32, 1 << 32, 1<<32 + 1, 1<<32 + 3, math.MaxInt - 1, math.MaxInt}
	months := []int{3, 12, 360, 479, 480, 481, 3599, 3600}
	days := []int{-25568, -25567, -25566, -25536, 3, 30, 31, 18292, 18293, 18294, 18322, firstOf(2159, 12), firstOf(2160, 1), firstOf(2199, 10), firstOf(2199, 11), firstOf(2199, 12), 84005, 84006}
	rates := []int{1799, 1800, 2500, 4299, 4300, 4301, 57_500, 57_501, 58_200, 58_201, 60_000, 60_001, 299_999, 300_000, 300_001}
	return [][]change{
		changesOf(far, []int{9_999_999_999_999, 10_000_000_000_000, 10_000_000_000_001}, func(x *api.Terms, n int) { x.Balance = int64(n) }),
		changesOf(far, rates, func(x *api.Terms, n int) { x.Rate = n }),
		changesOf(far, months, func(x *api.Terms, n int) { x.Months = n }),
		changesOf(far, days, func(x *api.Terms, n int) { x.First = n }),
		changesOf(far, []int{9_999_999_999_999, 10_000_000_000_000, 10_000_000_000_001}, func(x *api.Terms, n int) { x.Escrow = int64(n) }),
		changesOf(far, []int{63, 64, 65}, func(x *api.Terms, n int) { x.Investor = n }),
		changesOf(far, []int{3, 4, 5}, func(x *api.Terms, n int) { x.Remit = n }),
		changesOf(far, rates, func(x *api.Terms, n int) { x.Fee = n }),
		changesOf(far, rates, func(x *api.Terms, n int) { x.Guaranty = n }),
	}
}

// changesOf are the changes of one place to all numbers of both lists.
func changesOf(far, near []int, set func(x *api.Terms, n int)) []change {
	var l []change
	for _, numbers := range [][]int{far, near} {
		for _, n := range numbers {
			l = append(l, func(x *api.Terms) { set(x, n) })
		}
	}
	return l
}

// P11.1, P11.3: each of the chapter's bounds, written out: just on it, and just beyond it.
func TestTermsAtTheirBounds(t *testing.T) {
	for _, c := range []struct {
		name   string
		may    bool
		change change
	}{
		{"plain", true, func(x *api.Terms) {}},
		{"balance 0", false, func(x *api.Terms) { x.Balance = 0 }},
		{"balance 1", true, func(x *api.Terms) { x.Balance = 1 }},
		{"balance -1", false, func(x *api.Terms) { x.Balance = -1 }},
		{"balance 10^13", true, func(x *api.Terms) { x.Balance = 10_000_000_000_000 }},
		{"balance 10^13 + 1", false, func(x *api.Terms) { x.Balance = 10_000_000_000_001 }},
		{"no rate", true, func(x *api.Terms) { x.Rate, x.Fee, x.Guaranty = 0, 0, 0 }},
		{"rate -1", false, func(x *api.Terms) { x.Rate, x.Fee, x.Guaranty = -1, 0, 0 }},
		{"rate -1, all of it fee", false, func(x *api.Terms) { x.Rate, x.Fee, x.Guaranty = -1, -1, 0 }},
		{"rate 300000", true, func(x *api.Terms) { x.Rate = 300_000 }},
		{"rate 300001", false, func(x *api.Terms) { x.Rate = 300_001 }},
		{"no month", false, func(x *api.Terms) { x.Months = 0 }},
		{"a month", true, func(x *api.Terms) { x.Months = 1 }},
		{"480 months", true, func(x *api.Terms) { x.Months = 480 }},
		{"481 months", false, func(x *api.Terms) { x.Months = 481 }},
		{"the second", false, func(x *api.Terms) { x.First = 18294 }},
		{"the last", false, func(x *api.Terms) { x.First = 18292 }},
		{"1970-01-01", true, func(x *api.Terms) { x.First = 0 }},
		{"1900-01-01", true, func(x *api.Terms) { x.First = -25567 }},
		{"1899-12-01", false, func(x *api.Terms) { x.First = -25567 - 31 }},
		{"2200-01-01", false, func(x *api.Terms) { x.First, x.Months = 84006, 1 }},
		{"a month that is the last one", false, func(x *api.Terms) { x.First, x.Months = firstOf(2199, 12), 1 }},
		{"a month ahead of the last one", true, func(x *api.Terms) { x.First, x.Months = firstOf(2199, 11), 1 }},
		{"480 months up to the last one", false, func(x *api.Terms) { x.First, x.Months = firstOf(2160, 1), 480 }},
		{"480 months up to the one ahead of it", true, func(x *api.Terms) { x.First, x.Months = firstOf(2159, 12), 480 }},
		{"no escrow", true, func(x *api.Terms) { x.Escrow = 0 }},
		{"escrow -1", false, func(x *api.Terms) { x.Escrow = -1 }},
		{"escrow 10^13", true, func(x *api.Terms) { x.Escrow = 10_000_000_000_000 }},
		{"escrow 10^13 + 1", false, func(x *api.Terms) { x.Escrow = 10_000_000_000_001 }},
		{"investor 0", false, func(x *api.Terms) { x.Investor = 0 }},
		{"investor 1", true, func(x *api.Terms) { x.Investor = 1 }},
		{"investor 64", true, func(x *api.Terms) { x.Investor = 64 }},
		{"investor 65", false, func(x *api.Terms) { x.Investor = 65 }},
		{"no way of remitting", false, func(x *api.Terms) { x.Remit = 0 }},
		{"scheduled both", true, func(x *api.Terms) { x.Remit = api.RemitSS }},
		{"actual both", true, func(x *api.Terms) { x.Remit = api.RemitAA }},
		{"a fourth way", false, func(x *api.Terms) { x.Remit = 4 }},
		{"fee -1", false, func(x *api.Terms) { x.Fee = -1 }},
		{"guaranty -1", false, func(x *api.Terms) { x.Guaranty = -1 }},
		{"fee and guaranty sum to 0", false, func(x *api.Terms) { x.Fee, x.Guaranty = 5, -5 }},
		{"all is fee", true, func(x *api.Terms) { x.Fee, x.Guaranty = 60_000, 0 }},
		{"all is guaranty", true, func(x *api.Terms) { x.Fee, x.Guaranty = 0, 60_000 }},
		{"both are the rate", true, func(x *api.Terms) { x.Fee, x.Guaranty = 58_200, 1800 }},
		{"both are above the rate", false, func(x *api.Terms) { x.Fee, x.Guaranty = 58_200, 1801 }},
		{"a fee without a rate", false, func(x *api.Terms) { x.Rate, x.Fee, x.Guaranty = 0, 1, 0 }},
		{"both go round to 0", false, func(x *api.Terms) { x.Fee, x.Guaranty = math.MinInt, math.MinInt }},
		{"both go round below 0", false, func(x *api.Terms) { x.Fee, x.Guaranty = math.MaxInt, math.MaxInt }},
	} {
		x := plain()
		c.change(&x)
		if hold(t, x) != c.may {
			t.Errorf("%s: may be is %v", c.name, !c.may)
		}
	}
	if terms.Check(api.Terms{}) != api.ErrArg {
		t.Error("no terms at all may be")
	}
}

// P11.1: all numbers of two places of the terms at once.
func TestTermsOfTwoChanges(t *testing.T) {
	all := changes()
	may, mayNot := 0, 0
	for i, ones := range all {
		for _, others := range all[i:] {
			for _, one := range ones {
				for _, other := range others {
					x := plain()
					one(&x)
					other(&x)
					if hold(t, x) {
						may++
					} else {
						mayNot++
					}
				}
			}
		}
	}
	if may < 2000 || mayNot < 2000 {
		t.Errorf("%d terms may be, %d may not", may, mayNot)
	}
}

// P11.1, P1: numbers of all places at once; nothing panics.
func TestTermsOfAnyChanges(t *testing.T) {
	r := rand.New(rand.NewSource(11))
	all := changes()
	may := 0
	for range 100_000 {
		x := plain()
		for _, l := range all {
			if r.Intn(4) > 0 {
				l[r.Intn(len(l))](&x)
			}
		}
		if hold(t, x) {
			may++
		}
		terms.Due(x, []int{math.MinInt, 0, math.MaxInt}[r.Intn(3)])
	}
	for range 100_000 {
		rate := r.Intn(300_001)
		x := api.Terms{Balance: 1 + r.Int63n(10_000_000_000_000), Rate: rate, Months: 1 + r.Intn(480), First: firsts()[r.Intn(3600)], Escrow: r.Int63n(10_000_000_000_001), Investor: 1 + r.Intn(64), Remit: 1 + r.Intn(3), Fee: r.Intn(rate + 1), Guaranty: r.Intn(rate + 1)}
		if hold(t, x) {
			may++
		}
	}
	if may < 20_000 {
		t.Errorf("%d terms may be alone", may)
	}
}

// P11.1: of all days' numbers the firsts of months alone are a First, and those alone that leave room for a month and the one behind it.
func TestFirstIsTheFirstOfAMonth(t *testing.T) {
	x := plain()
	x.Months = 1
	may := 0
	for n := -25600; n <= 84050; n++ {
		x.First = n
		if hold(t, x) {
			may++
		}
	}
	if may != 3599 {
		t.Errorf("%d days are a First; want 3599", may)
	}
}

// P11.1: of all firsts of months, as many months as there are up to the last one of all, and no more.
func TestPlansEndAheadOfTheLastMonth(t *testing.T) {
	x := plain()
	for place, first := range firsts() {
		x.First = first
		room := min(480, 3599-place)
		for _, c := range []struct {
			months int
			may    bool
		}{{room - 1, room > 1}, {room, room > 0}, {room + 1, false}} {
			x.Months = c.months
			if hold(t, x) != c.may {
				t.Fatalf("%d months from %d on: may be is %v", c.months, first, !c.may)
			}
		}
	}
}

// P11.1: Net is what is left of the rate.
func TestNet(t *testing.T) {
	for _, c := range []struct{ rate, fee, guaranty, want int }{
		{60_000, 0, 0, 60_000},
		{60_000, 2500, 0, 57_500},
		{60_000, 0, 1800, 58_200},
		{60_000, 2500, 1800, 55_700},
		{60_000, 59_999, 0, 1},
		{60_000, 30_000, 30_000, 0},
		{300_000, 1, 2, 299_997},
		{5, 1, 0, 4},
		{0, 0, 0, 0},
		{60_000, 30_000, 30_001, 0},
		{60_000, -1, 0, 0},
		{60_000, 0, -1, 0},
		{300_001, 1, 2, 0},
		{-1, 0, 0, 0},
	} {
		x := plain()
		x.Rate, x.Fee, x.Guaranty = c.rate, c.fee, c.guaranty
		if net := terms.Net(x); net != c.want {
			t.Errorf("Net of %d, %d, %d: %d; want %d", c.rate, c.fee, c.guaranty, net, c.want)
		}
	}
	x := plain()
	x.Balance = 0 // what isn't of the rate counts too
	if net := terms.Net(x); net != 0 {
		t.Errorf("Net of terms that may not be: %d", net)
	}
}

// P11.2, written out, the chapter's example first.
func TestResetOfSome(t *testing.T) {
	for _, c := range []struct{ before, index, margin, limit, ceiling, want int }{
		{50_000, 40_600, 20_000, 10_000, 90_000, 60_000},
		{50_000, 30_624, 20_000, 10_000, 90_000, 50_000}, // ahead of the half
		{50_000, 30_625, 20_000, 10_000, 90_000, 51_250}, // the half goes up
		{50_000, 30_626, 20_000, 10_000, 90_000, 51_250}, // beyond it
		{50_000, 31_875, 20_000, 10_000, 90_000, 52_500}, // and the next one, too
		{50_000, 31_249, 20_000, 10_000, 90_000, 51_250},
		{0, 624, 0, 300_000, 300_000, 0},
		{0, 625, 0, 300_000, 300_000, 1250},
		{0, 400, 225, 300_000, 300_000, 1250},            // both together are rounded, not each
		{50_000, 39_999, 20_000, 10_000, 90_000, 60_000}, // no more than the cap above
		{50_000, 41_249, 20_000, 10_000, 90_000, 60_000},
		{50_000, 20_001, 20_000, 10_000, 90_000, 40_000}, // nor below
		{50_000, 10_000, 20_000, 10_000, 90_000, 40_000},
		{50_001, 90_000, 20_000, 10_001, 90_000, 60_002}, // what is capped isn't rounded again
		{50_001, 0, 20_000, 10_002, 90_000, 39_999},
		{50_000, 40_000, 20_000, 0, 90_000, 50_000},      // a cap of nothing
		{50_000, 90_000, 20_000, 10_000, 59_999, 59_999}, // no higher than the ceiling
		{50_000, 60_000, 20_000, 10_000, 40_000, 40_000}, // whatever the cap
		{50_000, 60_000, 20_000, 5000, 20_000, 20_000},
		{50_000, 0, 20_625, 300_000, 90_000, 21_250}, // rounded above the margin
		{50_000, 0, 20_624, 300_000, 90_000, 20_624}, // no lower than it
		{10_000, 0, 20_000, 1000, 90_000, 20_000},    // whatever the cap
		{0, 300_000, 300_000, 0, 300_000, 300_000},
		{300_000, 0, 0, 300_000, 300_000, 0},
		{300_000, 300_000, 300_000, 300_000, 300_000, 300_000},
		{0, 0, 0, 0, 0, 0},
	} {
		got, err := terms.Reset(c.before, c.index, c.margin, c.limit, c.ceiling)
		if err != nil || got != c.want {
			t.Errorf("Reset(%d, %d, %d, %d, %d): %d, %v; want %d", c.before, c.index, c.margin, c.limit, c.ceiling, got, err, c.want)
		}
	}
}

// nearestEighth is the eighth of a percent next to a sum, of two the greater one.
func nearestEighth(sum int) int {
	below := 0
	for below+1250 <= sum {
		below += 1250
	}
	if sum-below < below+1250-sum {
		return below
	}
	return below + 1250
}

// reset is the new rate by the chapter's words, step by step.
func reset(before, index, margin, limit, ceiling int) int {
	r := nearestEighth(index + margin)
	if r > before && r-before > limit {
		r = before + limit
	}
	if r < before && before-r > limit {
		r = before - limit
	}
	if r > ceiling {
		r = ceiling
	}
	if r < margin {
		r = margin
	}
	return r
}

func isRate(x int) bool { return x >= 0 && x <= 300_000 }

// holdReset holds Reset against the chapter's words, and what follows from them (P11.4); it tells whether there is a new rate.
func holdReset(t *testing.T, before, index, margin, limit, ceiling int) bool {
	t.Helper()
	got, err := terms.Reset(before, index, margin, limit, ceiling)
	if !isRate(before) || !isRate(index) || !isRate(margin) || !isRate(limit) || !isRate(ceiling) || margin > ceiling {
		if got != 0 || err != api.ErrArg {
			t.Fatalf("Reset(%d, %d, %d, %d, %d): %d, %v; want %v", before, index, margin, limit, ceiling, got, err, api.ErrArg)
		}
		return false
	}
	if want := reset(before, index, margin, limit, ceiling); got != want || err != nil {
		t.Fatalf("Reset(%d, %d, %d, %d, %d): %d, %v; want %d", before, index, margin, limit, ceiling, got, err, want)
	}
	if got < margin || got > ceiling {
		t.Fatalf("Reset(%d, %d, %d, %d, %d): %d isn't between margin and ceiling", before, index, margin, limit, ceiling, got)
	}
	room := before+limit >= margin && before-limit <= ceiling
	if room && (got > before+limit || got < before-limit) {
		t.Fatalf("Reset(%d, %d, %d, %d, %d): %d is further than the cap", before, index, margin, limit, ceiling, got)
	}
	return true
}

// P11.2, P11.4: all numbers at which something might turn, in all five places.
func TestResetAtItsBounds(t *testing.T) {
	numbers := []int{math.MinInt, -1, 0, 1, 624, 625, 626, 1250, 1251, 20_000, 50_000, 149_375, 298_750, 299_999, 300_000, 300_001, math.MaxInt}
	rates := 0
	for _, before := range numbers {
		for _, index := range numbers {
			for _, margin := range numbers {
				for _, limit := range numbers {
					for _, ceiling := range numbers {
						if holdReset(t, before, index, margin, limit, ceiling) {
							rates++
						}
					}
				}
			}
		}
	}
	// 13 of the numbers may be; of the pairs of margin and ceiling 13 * 14 / 2.
	if rates != 13*13*13*91 {
		t.Errorf("%d new rates", rates)
	}
}

// P11.2, P11.4
func TestResetOfAny(t *testing.T) {
	r := rand.New(rand.NewSource(12))
	for range 300_000 {
		margin := r.Intn(60_000)
		holdReset(t, r.Intn(150_000), r.Intn(100_000), margin, r.Intn(30_000), margin+r.Intn(100_000))
	}
	for range 100_000 {
		holdReset(t, r.Intn(300_003)-1, r.Intn(300_003)-1, r.Intn(300_003)-1, r.Intn(300_003)-1, r.Intn(300_003)-1)
	}
}

// P11.2: an index, or a margin, of each millionth.
func TestResetRoundsToTheNearestEighth(t *testing.T) {
	for sum := 0; sum <= 300_000; sum++ {
		holdReset(t, 0, sum, 0, 300_000, 300_000)
		holdReset(t, 0, sum/2, sum-sum/2, 300_000, 300_000)
	}
}

// P11.2: each argument alone may be wrong.
func TestResetOfWrong(t *testing.T) {
	for place := range 5 {
		for _, wrong := range []int{math.MinInt, math.MinInt32, -1250, -1, 300_001, 301_250, math.MaxInt32, math.MaxInt} {
			x := [5]int{50_000, 40_600, 20_000, 10_000, 90_000}
			x[place] = wrong
			if got, err := terms.Reset(x[0], x[1], x[2], x[3], x[4]); got != 0 || err != api.ErrArg {
				t.Errorf("Reset%v: %d, %v; want %v", x, got, err, api.ErrArg)
			}
		}
	}
	if got, err := terms.Reset(50_000, 40_600, 20_001, 10_000, 20_000); got != 0 || err != api.ErrArg {
		t.Errorf("of a margin above the ceiling: %d, %v; want %v", got, err, api.ErrArg)
	}
	if got, err := terms.Reset(50_000, 40_600, 20_000, 10_000, 20_000); got != 20_000 || err != nil {
		t.Errorf("of a margin that is the ceiling: %d, %v; want 20000", got, err)
	}
}

// P11.4: what is reset to itself stays, where it is an eighth.
func TestWhatIsResetToItselfStays(t *testing.T) {
	for rate := 0; rate <= 300_000; rate += 1250 {
		for _, margin := range []int{0, 1, 625, 1250, 20_000, rate / 2, rate} {
			for _, limit := range []int{0, 1, 1250, 300_000} {
				for _, ceiling := range []int{rate, min(rate+1, 300_000), 300_000} {
					if margin > rate {
						continue
					}
					if got, err := terms.Reset(rate, rate-margin, margin, limit, ceiling); got != rate || err != nil {
						t.Fatalf("Reset(%d, %d, %d, %d, %d): %d, %v", rate, rate-margin, margin, limit, ceiling, got, err)
					}
				}
			}
		}
	}
}

// P11.3, written out.
func TestDueOfSome(t *testing.T) {
	for _, c := range []struct{ y, m, n, wantY, wantM int }{
		{2020, 2, 0, 2020, 2},
		{2020, 2, 1, 2020, 3},
		{2020, 2, 10, 2020, 12},
		{2020, 2, 11, 2021, 1},
		{2020, 2, 12, 2021, 2},
		{2020, 2, 359, 2050, 1},
		{2020, 2, 360, 2050, 2},
		{1900, 1, 1, 1900, 2},
		{1900, 1, 2, 1900, 3},
		{1969, 12, 1, 1970, 1},
		{2099, 12, 3, 2100, 3},
		{2169, 12, 360, 2199, 12},
	} {
		x := plain()
		x.First = firstOf(c.y, c.m)
		if due, err := terms.Due(x, c.n); due != firstOf(c.wantY, c.wantM) || err != nil {
			t.Errorf("Due from %d-%d on, %d: %d, %v; want that of %d-%d", c.y, c.m, c.n, due, err, c.wantY, c.wantM)
		}
	}
	x := plain()
	for n, want := range []int{18293, 18322, 18353, 18383} {
		if due, err := terms.Due(x, n); due != want || err != nil {
			t.Errorf("Due(%d): %d, %v; want %d", n, due, err, want)
		}
	}
}

// P11.3, P11.4: of all firsts of months all instalments, and the month behind them: firsts of months, one behind the other.
func TestDueOfAll(t *testing.T) {
	for place, first := range firsts() {
		x := plain()
		x.First, x.Months = first, min(480, 3599-place)
		for n := 0; n <= x.Months && x.Months > 0; n++ {
			due, err := terms.Due(x, n)
			if err != nil || due != firsts()[place+n] {
				t.Fatalf("Due from %d on, %d: %d, %v; want %d", first, n, due, err, firsts()[place+n])
			}
		}
	}
}

// P11.3: an instalment that isn't of the plan, and terms that may not be.
func TestDueOfWrong(t *testing.T) {
	for _, months := range []int{1, 2, 12, 360, 480} {
		x := plain()
		x.Months = months
		for _, n := range []int{math.MinInt, math.MinInt32, -480, -1, months + 1, 481, 1 << 32, math.MaxInt - 1, math.MaxInt} {
			if due, err := terms.Due(x, n); due != 0 || err != api.ErrArg {
				t.Errorf("Due of %d months, %d: %d, %v; want %v", months, n, due, err, api.ErrArg)
			}
		}
	}
	for _, wrong := range []change{
		func(x *api.Terms) { x.Balance = 0 },
		func(x *api.Terms) { x.Rate = 300_001 },
		func(x *api.Terms) { x.Months = 481 },
		func(x *api.Terms) { x.First++ },
		func(x *api.Terms) { x.First = math.MinInt },
		func(x *api.Terms) { x.First = math.MaxInt },
		func(x *api.Terms) { x.Escrow = -1 },
		func(x *api.Terms) { x.Investor = 65 },
		func(x *api.Terms) { x.Remit = 0 },
		func(x *api.Terms) { x.Fee = 58_201 },
		func(x *api.Terms) { x.Guaranty = -1 },
	} {
		x := plain()
		wrong(&x)
		for _, n := range []int{-1, 0, 1, 360} {
			if due, err := terms.Due(x, n); due != 0 || err != api.ErrArg {
				t.Errorf("Due(%+v, %d): %d, %v; want %v", x, n, due, err, api.ErrArg)
			}
		}
	}
}
