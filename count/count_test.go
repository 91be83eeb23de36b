package count_test

import (
	"math"
	"math/big"
	"testing"

	"trivet/api"
	"trivet/count"
	"trivet/rate"
)

// The two ways of counting, as the calls take them.
const (
	byMonths = true
	byDays   = false
)

var ways = []bool{byMonths, byDays}

func day(y, m, d int) api.Date {
	return api.Date{Y: y, M: m, D: d}
}

// placed is a date, with how many days it is behind January 1, 1900, of either way.
type placed struct {
	date         api.Date
	days, months int
}

// leapYear tells whether February has 29 days.
func leapYear(y int) bool {
	return y%4 == 0 && (y%100 != 0 || y%400 == 0)
}

// allDates are all of them, counted on day by day: a 31st stands where the 30th does, and behind February's last day are as many as it lacks to 30.
func allDates() []placed {
	var l []placed
	days, months := 0, 0
	for y := 1900; y <= 2199; y++ {
		for i, last := range []int{31, 28, 31, 30, 31, 30, 31, 31, 30, 31, 30, 31} {
			if i == 1 && leapYear(y) {
				last = 29
			}
			for d := 1; d <= last; d++ {
				l = append(l, placed{day(y, i+1, d), days, months})
				days++
				if d != 30 || last == 30 {
					months++
				}
			}
			if last < 30 {
				months += 30 - last
			}
		}
	}
	return l
}

// noDates are some that are none.
func noDates() []api.Date {
	l := []api.Date{
		{},
		day(1970, 0, 1), day(1970, 13, 1), day(1970, -1, 1),
		day(1970, 1, 0), day(1970, 1, -1), day(1970, 1, 32),
		day(1970, 4, 31), day(1970, 6, 31), day(1970, 9, 31), day(1970, 11, 31),
		day(1970, 2, 29), day(1970, 2, 30), day(2024, 2, 30), day(2024, 2, 31), day(1900, 2, 29), day(2100, 2, 29),
		day(1899, 12, 31), day(1896, 2, 29), day(2200, 1, 1), day(2204, 2, 29),
		day(0, 1, 1), day(-1970, 1, 1), day(1, 1, 1970),
	}
	for _, x := range []int{math.MinInt, math.MinInt + 1, math.MinInt / 360, math.MinInt32, math.MaxInt32, math.MaxInt / 360, math.MaxInt / 30, math.MaxInt - 1, math.MaxInt} {
		l = append(l, day(x, 1, 1), day(2024, x, 1), day(2024, 1, x), day(x, x, x))
	}
	return l
}

func checkBetween(t *testing.T, a, b api.Date, months bool, want int) {
	t.Helper()
	if n, err := count.Between(a, b, months); err != nil || n != want {
		t.Fatalf("Between(%v, %v, %t): %d, %v; want %d", a, b, months, n, err, want)
	}
}

func checkBetweenWrong(t *testing.T, a, b api.Date) {
	t.Helper()
	for _, months := range ways {
		if n, err := count.Between(a, b, months); err != api.ErrForm || n != 0 {
			t.Fatalf("Between(%v, %v, %t): %d, %v; want ErrForm", a, b, months, n, err)
		}
	}
}

func checkAccrue(t *testing.T, balance int64, r, days int, months bool, want int64) {
	t.Helper()
	if v, err := count.Accrue(balance, r, days, months); err != nil || v != want {
		t.Fatalf("Accrue(%d, %d, %d, %t): %d, %v; want %d", balance, r, days, months, v, err, want)
	}
}

func checkAccrueWrong(t *testing.T, balance int64, r, days int) {
	t.Helper()
	for _, months := range ways {
		if v, err := count.Accrue(balance, r, days, months); err != api.ErrArg || v != 0 {
			t.Fatalf("Accrue(%d, %d, %d, %t): %d, %v; want ErrArg", balance, r, days, months, v, err)
		}
	}
}

// P5.1: by months, and by days, there and back.
func TestBetween(t *testing.T) {
	for _, x := range []struct {
		a, b         api.Date
		months, days int
	}{
		{day(2024, 1, 31), day(2024, 2, 29), 29, 29},
		{day(2023, 12, 31), day(2024, 3, 1), 61, 61},
		{day(2024, 5, 17), day(2024, 5, 17), 0, 0},
		{day(2024, 5, 17), day(2024, 5, 18), 1, 1},
		{day(2024, 5, 17), day(2024, 6, 17), 30, 31},
		{day(2024, 1, 1), day(2025, 1, 1), 360, 366},
		{day(2023, 1, 1), day(2024, 1, 1), 360, 365},
		{day(2023, 12, 31), day(2024, 1, 1), 1, 1},
		{day(2023, 12, 30), day(2024, 1, 1), 1, 2},
		// A 31st is a 30th on either side, whatever the other day is.
		{day(2024, 1, 30), day(2024, 1, 31), 0, 1},
		{day(2024, 1, 29), day(2024, 1, 31), 1, 2},
		{day(2024, 1, 15), day(2024, 1, 31), 15, 16},
		{day(2024, 1, 1), day(2024, 1, 31), 29, 30},
		{day(2024, 1, 31), day(2024, 2, 1), 1, 1},
		{day(2024, 1, 31), day(2024, 3, 31), 60, 60},
		{day(2024, 1, 31), day(2024, 3, 30), 60, 59},
		{day(2024, 1, 30), day(2024, 3, 31), 60, 61},
		{day(2024, 4, 30), day(2024, 5, 31), 30, 31},
		// February's last day is no 30th.
		{day(2024, 2, 28), day(2024, 3, 1), 3, 2},
		{day(2024, 2, 29), day(2024, 3, 1), 2, 1},
		{day(2023, 2, 28), day(2023, 3, 1), 3, 1},
		{day(2023, 2, 28), day(2023, 3, 31), 32, 31},
		{day(2024, 2, 29), day(2024, 3, 31), 31, 31},
		{day(2023, 2, 28), day(2024, 2, 29), 361, 366},
		{day(2024, 2, 29), day(2025, 2, 28), 359, 365},
		{day(2024, 8, 31), day(2025, 2, 28), 178, 181},
		{day(1900, 2, 28), day(1900, 3, 1), 3, 1},
		{day(2000, 2, 28), day(2000, 3, 1), 3, 2},
		{day(1900, 1, 1), day(2199, 12, 31), 107_999, 109_572},
		{day(1969, 12, 31), day(1970, 1, 1), 1, 1},
	} {
		checkBetween(t, x.a, x.b, byMonths, x.months)
		checkBetween(t, x.b, x.a, byMonths, -x.months)
		checkBetween(t, x.a, x.b, byDays, x.days)
		checkBetween(t, x.b, x.a, byDays, -x.days)
	}
}

// P5.1: all dates, from the first, the last and some others.
func TestBetweenOfAllDates(t *testing.T) {
	l := allDates()
	if len(l) != 109_573 {
		t.Fatalf("%d dates", len(l))
	}
	from := []placed{l[0], l[len(l)-1]}
	for i := 58; i < len(l); i += 9_973 {
		from = append(from, l[i])
	}
	for _, a := range from {
		for _, b := range l {
			checkBetween(t, a.date, b.date, byMonths, b.months-a.months)
			checkBetween(t, a.date, b.date, byDays, b.days-a.days)
		}
	}
}

// P5.1: all days of a year and a leap year, each with each.
func TestBetweenOfTwoYears(t *testing.T) {
	var l []placed
	for _, x := range allDates() {
		if x.date.Y == 2023 || x.date.Y == 2024 {
			l = append(l, x)
		}
	}
	for _, a := range l {
		for _, b := range l {
			checkBetween(t, a.date, b.date, byMonths, b.months-a.months)
			checkBetween(t, a.date, b.date, byDays, b.days-a.days)
		}
	}
}

// P5.1: none as the first one, as the second one, as both.
func TestBetweenNoDates(t *testing.T) {
	dates := []api.Date{day(1900, 1, 1), day(1970, 1, 1), day(2024, 1, 31), day(2024, 2, 29), day(2199, 12, 31)}
	for _, none := range noDates() {
		for _, d := range dates {
			checkBetweenWrong(t, none, d)
			checkBetweenWrong(t, d, none)
		}
		checkBetweenWrong(t, none, none)
		for _, other := range noDates() {
			checkBetweenWrong(t, none, other)
		}
	}
}

// exactAccrue is the interest by the document's words, in numbers that have always room.
func exactAccrue(balance int64, r, days int, months bool) int64 {
	divisor := big.NewInt(365_000_000)
	if months {
		divisor.SetInt64(360_000_000)
	}
	product := new(big.Int).Mul(big.NewInt(balance), big.NewInt(int64(r)))
	product.Mul(product, big.NewInt(int64(days)))
	whole, rest := new(big.Int), new(big.Int)
	whole.DivMod(product, divisor, rest)
	half := rest.Lsh(rest, 1).Cmp(divisor)
	if half > 0 || half == 0 && whole.Bit(0) == 1 {
		whole.Add(whole, big.NewInt(1))
	}
	return whole.Int64()
}

// balances are balances that may be, at edges and between.
func balances() []int64 {
	return []int64{0, 1, 2, 19, 20, 99, 100, 365, 1000, 1200, 99_999, 12_345_678, 36_000_000, 36_500_000, 1 << 31, 1 << 40, api.MaxCents / 2, api.MaxCents - 1, api.MaxCents}
}

// rates are rates that may be.
func rates() []int {
	return []int{0, 1, 11, 12, 1200, 29_999, 60_000, 180_000, 182_500, 299_999, api.MaxRate}
}

// P5.2
func TestAccrue(t *testing.T) {
	for _, x := range []struct {
		balance      int64
		rate, days   int
		months, year int64
	}{
		{36_500_000, 10_000, 1, 1014, 1000},
		{36_000_000, 100_000, 15, 150_000, 147_945},
		{36_000_000, 100_000, 360, 3_600_000, 3_550_685},
		{36_500_000, 100_000, 365, 3_700_694, 3_650_000},
		{36_500_000, 100_000, 366, 3_710_833, 3_660_000},
		{20_000_000, 60_000, 30, 100_000, 98_630},
		{0, 0, 0, 0, 0},
		{0, api.MaxRate, api.MaxDays, 0, 0},
		{api.MaxCents, 0, api.MaxDays, 0, 0},
		{api.MaxCents, api.MaxRate, 0, 0, 0},
		{api.MaxCents, 1, 1, 27_778, 27_397},
		{api.MaxCents, api.MaxRate, 1, 8_333_333_333, 8_219_178_082},
		{api.MaxCents, api.MaxRate, 30, 250_000_000_000, 246_575_342_466},
		{api.MaxCents, api.MaxRate, api.MaxDays, 333_333_333_333_333, 328_767_123_287_671},
		{api.MaxCents, api.MaxRate, api.MaxDays - 1, 333_325_000_000_000, 328_758_904_109_589},
	} {
		checkAccrue(t, x.balance, x.rate, x.days, byMonths, x.months)
		checkAccrue(t, x.balance, x.rate, x.days, byDays, x.year)
	}
}

// P5.2: with these rates a day's interest is the balance by 2000: halves go to the even one, what is beside them to the nearest.
func TestAccrueRounds(t *testing.T) {
	for _, x := range []struct{ balance, want int64 }{
		{999, 0}, {1000, 0}, {1001, 1},
		{2000, 1}, {2999, 1}, {3000, 2}, {3001, 2},
		{4999, 2}, {5000, 2}, {5001, 3}, {7000, 4}, {9000, 4},
	} {
		checkAccrue(t, x.balance, 180_000, 1, byMonths, x.want)
		checkAccrue(t, x.balance, 182_500, 1, byDays, x.want)
		// Days are reckoned with ahead of rounding: as many days at a part of the rate are the same.
		checkAccrue(t, x.balance, 36_000, 5, byMonths, x.want)
		checkAccrue(t, x.balance, 36_500, 5, byDays, x.want)
		checkAccrue(t, x.balance, 5, 36_000, byMonths, x.want)
		checkAccrue(t, x.balance, 5, 36_500, byDays, x.want)
	}
}

// P5.2
func TestAccrueIsExact(t *testing.T) {
	for _, b := range balances() {
		for _, r := range rates() {
			for _, days := range []int{0, 1, 2, 28, 29, 30, 31, 180, 359, 360, 361, 364, 365, 366, 3660, 39_999, api.MaxDays} {
				for _, months := range ways {
					checkAccrue(t, b, r, days, months, exactAccrue(b, r, days, months))
				}
			}
		}
	}
	for b := range int64(3000) {
		for _, days := range []int{1, 7, 30, 365, 4000} {
			for _, months := range ways {
				checkAccrue(t, b, 180_000, days, months, exactAccrue(b, 180_000, days, months))
				checkAccrue(t, b, 182_500, days, months, exactAccrue(b, 182_500, days, months))
			}
		}
	}
}

// P5.2: each argument alone that may not be, and all of them together.
func TestAccrueWrong(t *testing.T) {
	wrongBalances := []int64{math.MinInt64, -api.MaxCents, -1, api.MaxCents + 1, 1 << 62, math.MaxInt64}
	wrongRates := []int{math.MinInt, math.MinInt32, -api.MaxRate, -1, api.MaxRate + 1, api.Million, math.MaxInt32, math.MaxInt}
	wrongDays := []int{math.MinInt, math.MinInt32, -api.MaxDays, -1, api.MaxDays + 1, math.MaxInt32, math.MaxInt}
	days := []int{0, 1, 30, 365, api.MaxDays}
	for _, r := range rates() {
		for _, d := range days {
			for _, b := range wrongBalances {
				checkAccrueWrong(t, b, r, d)
			}
		}
	}
	for _, b := range balances() {
		for _, r := range wrongRates {
			for _, d := range days {
				checkAccrueWrong(t, b, r, d)
			}
		}
		for _, r := range rates() {
			for _, d := range wrongDays {
				checkAccrueWrong(t, b, r, d)
			}
		}
	}
	for _, b := range wrongBalances {
		for _, r := range wrongRates {
			for _, d := range wrongDays {
				checkAccrueWrong(t, b, r, d)
			}
		}
	}
}

// P5.3: from a to b and back is 0, and by way of a third date it is the same.
func TestThereAndBack(t *testing.T) {
	l := allDates()
	between := func(a, b api.Date, months bool) int {
		n, err := count.Between(a, b, months)
		if err != nil {
			t.Fatalf("Between(%v, %v, %t): %v", a, b, months, err)
		}
		return n
	}
	for i := 0; i < len(l); i += 397 {
		for j := 0; j < len(l); j += 401 {
			a, b, third := l[i].date, l[j].date, l[(i+j)%len(l)].date
			for _, months := range ways {
				n := between(a, b, months)
				if back := between(b, a, months); n+back != 0 {
					t.Fatalf("%v to %v: %d, and back %d", a, b, n, back)
				}
				if way := between(a, third, months) + between(third, b, months); way != n {
					t.Fatalf("%v to %v: %d, by way of %v %d", a, b, n, third, way)
				}
			}
		}
	}
}

// P5.3
func TestThirtyDaysByMonthsAreAMonth(t *testing.T) {
	check := func(b int64, r int) {
		want, err := rate.Month(b, r)
		if err != nil {
			t.Fatalf("Month(%d, %d): %v", b, r, err)
		}
		checkAccrue(t, b, r, 30, byMonths, want)
	}
	for _, r := range rates() {
		for _, b := range balances() {
			check(b, r)
		}
		for b := range int64(1000) {
			check(b, r)
			check(api.MaxCents-b, r)
		}
	}
}

// P5.3: of days up to the 28th, from each month to the next one.
func TestNextMonthIsThirtyDaysBehind(t *testing.T) {
	for y := 1900; y <= 2199; y++ {
		for m := 1; m <= 12; m++ {
			next := day(y, m+1, 1)
			if m == 12 {
				next = day(y+1, 1, 1)
			}
			if next.Y > 2199 {
				continue
			}
			for d := 1; d <= 28; d++ {
				next.D = d
				checkBetween(t, day(y, m, d), next, byMonths, 30)
			}
		}
	}
}

// R2: an answer hangs on nothing that was asked earlier.
func TestNothingIsKept(t *testing.T) {
	checkAccrue(t, 36_500_000, 10_000, 1, byDays, 1000)
	checkBetween(t, day(2024, 1, 31), day(2024, 2, 29), byMonths, 29)
	checkAccrueWrong(t, -1, 0, 0)
	checkBetweenWrong(t, day(2024, 2, 30), day(2024, 2, 29))
	checkAccrue(t, 36_500_000, 10_000, 1, byMonths, 1014)
	checkAccrue(t, 36_500_000, 10_000, 1, byDays, 1000)
	checkBetween(t, day(2024, 1, 29), day(2024, 2, 29), byDays, 31)
	checkBetween(t, day(2024, 1, 31), day(2024, 2, 29), byMonths, 29)
}
