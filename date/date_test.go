package date_test

import (
	"math"
	"testing"

	"trivet/api"
	"trivet/date"
)

// day is a date, told shortly.
func day(y, m, d int) api.Date {
	return api.Date{Y: y, M: m, D: d}
}

// month is a month of all years, and how many days it has.
type month struct {
	y, m, days int
}

// allMonths are the months of all years by the document's words, one behind the other.
func allMonths() []month {
	var l []month
	for y := 1900; y <= 2199; y++ {
		february := 28
		if y%400 == 0 || y%4 == 0 && y%100 != 0 {
			february = 29
		}
		for i, days := range []int{31, february, 31, 30, 31, 30, 31, 31, 30, 31, 30, 31} {
			l = append(l, month{y, i + 1, days})
		}
	}
	return l
}

// eachDay calls with all dates, one behind the other, with their numbers and weekdays as they are counted on from January 1, 1900: a Monday, 25567 days ahead of January 1, 1970.
func eachDay(call func(d api.Date, number, weekday int)) {
	number, weekday := -25567, 1
	for _, m := range allMonths() {
		for d := 1; d <= m.days; d++ {
			call(day(m.y, m.m, d), number, weekday)
			number, weekday = number+1, (weekday+1)%7
		}
	}
}

// noDates are some that are none.
func noDates() []api.Date {
	l := []api.Date{
		{},
		day(1970, 0, 1), day(1970, 13, 1), day(1970, -1, 1),
		day(1970, 1, 0), day(1970, 1, -1), day(1970, 1, 32), day(1970, 12, 32),
		day(1970, 4, 31), day(1970, 6, 31), day(1970, 9, 31), day(1970, 11, 31),
		day(1970, 2, 29), day(2024, 2, 30), day(2000, 2, 30), day(1900, 2, 29), day(2100, 2, 29),
		day(1899, 12, 31), day(1899, 1, 1), day(1896, 2, 29), day(2200, 1, 1), day(2200, 12, 31), day(2204, 2, 29),
		day(0, 1, 1), day(-1970, 1, 1), day(70, 1, 1), day(1, 1, 1970),
	}
	far := []int{math.MinInt, math.MinInt + 1, math.MinInt32, math.MinInt / 12, math.MaxInt32, math.MaxInt / 12, math.MaxInt - 1, math.MaxInt}
	for _, x := range far {
		l = append(l, day(x, 1, 1), day(2024, x, 1), day(2024, 1, x), day(x, x, 1), day(2024, x, x), day(x, 1, x), day(x, x, x))
	}
	return l
}

func checkNumber(t *testing.T, d api.Date, want int) {
	t.Helper()
	if n, err := date.Number(d); err != nil || n != want {
		t.Fatalf("Number(%v): %d, %v; want %d", d, n, err, want)
	}
	if got, err := date.Of(want); err != nil || got != d {
		t.Fatalf("Of(%d): %v, %v; want %v", want, got, err, d)
	}
}

func checkMonths(t *testing.T, d api.Date, n int, want api.Date) {
	t.Helper()
	if got, err := date.Months(d, n); err != nil || got != want {
		t.Fatalf("Months(%v, %d): %v, %v; want %v", d, n, got, err, want)
	}
}

func checkMonthsWrong(t *testing.T, d api.Date, n int, want api.Code) {
	t.Helper()
	if got, err := date.Months(d, n); err != want || got != (api.Date{}) {
		t.Fatalf("Months(%v, %d): %v, %v; want %v", d, n, got, err, want)
	}
}

func checkWeekday(t *testing.T, d api.Date, want int) {
	t.Helper()
	if w, err := date.Weekday(d); err != nil || w != want {
		t.Fatalf("Weekday(%v): %d, %v; want %d", d, w, err, want)
	}
}

func checkLast(t *testing.T, d, want api.Date) {
	t.Helper()
	if got, err := date.Last(d); err != nil || got != want {
		t.Fatalf("Last(%v): %v, %v; want %v", d, got, err, want)
	}
}

// P4.1
func TestDays(t *testing.T) {
	leapDays := 0
	for _, m := range allMonths() {
		if got := date.Days(m.y, m.m); got != m.days {
			t.Fatalf("Days(%d, %d): %d; want %d", m.y, m.m, got, m.days)
		}
		if date.Days(m.y, m.m) == 29 {
			leapDays++
		}
	}
	// 4 divides 75 of the years; of these 1900 and 2100 have none.
	if leapDays != 73 {
		t.Fatalf("%d leap days", leapDays)
	}
	for y, want := range map[int]int{1900: 28, 1904: 29, 1970: 28, 1999: 28, 2000: 29, 2001: 28, 2023: 28, 2024: 29, 2096: 29, 2100: 28, 2104: 29, 2196: 29, 2199: 28} {
		if got := date.Days(y, 2); got != want {
			t.Fatalf("Days(%d, 2): %d; want %d", y, got, want)
		}
	}
}

// P4.1
func TestDaysOfNoMonth(t *testing.T) {
	wrong := []int{math.MinInt, -1 << 40, math.MinInt32, -2000, -1, 0, 13, 14, 1899, 2200, 2400, math.MaxInt32, 1 << 40, math.MaxInt}
	for _, x := range wrong {
		for y := 1900; y <= 2199; y++ {
			if got := date.Days(y, x); got != 0 {
				t.Fatalf("Days(%d, %d): %d; want 0", y, x, got)
			}
		}
		for m := -1; m <= 14; m++ {
			if got := date.Days(x, m); got != 0 {
				t.Fatalf("Days(%d, %d): %d; want 0", x, m, got)
			}
		}
		for _, m := range wrong {
			if got := date.Days(x, m); got != 0 {
				t.Fatalf("Days(%d, %d): %d; want 0", x, m, got)
			}
		}
	}
}

// P4.1: the days of each month from the first to the last one, and none beside them.
func TestMay(t *testing.T) {
	for _, m := range allMonths() {
		for d := -2; d <= 33; d++ {
			if got, want := date.May(day(m.y, m.m, d)), d >= 1 && d <= m.days; got != want {
				t.Fatalf("May(%v): %v; want %v", day(m.y, m.m, d), got, want)
			}
		}
	}
	for _, d := range noDates() {
		if date.May(d) {
			t.Fatalf("May(%v)", d)
		}
	}
}

// P4.2
func TestNumber(t *testing.T) {
	checkNumber(t, day(1970, 1, 1), 0)
	checkNumber(t, day(1970, 1, 2), 1)
	checkNumber(t, day(1969, 12, 31), -1)
	checkNumber(t, day(1970, 12, 31), 364)
	checkNumber(t, day(1971, 1, 1), 365)
	checkNumber(t, day(1969, 1, 1), -365)
	checkNumber(t, day(1968, 12, 31), -366)
	checkNumber(t, day(1968, 1, 1), -731)
	checkNumber(t, day(1972, 2, 29), 789)
	checkNumber(t, day(1972, 3, 1), 790)
	checkNumber(t, day(2000, 2, 29), 11016)
	checkNumber(t, day(2000, 3, 1), 11017)
	checkNumber(t, day(2000, 12, 31), 11322)
	checkNumber(t, day(2020, 1, 1), 18262)
	checkNumber(t, day(2100, 2, 28), 47540)
	checkNumber(t, day(2100, 3, 1), 47541)
	checkNumber(t, day(1900, 2, 28), -25509)
	checkNumber(t, day(1900, 3, 1), -25508)
	checkNumber(t, day(1900, 1, 1), -25567)
	checkNumber(t, day(2199, 12, 31), 84005)
}

// P4.2 and P4.4: a number and its date belong together; the next day's number is one more.
func TestEachDayHasItsNumber(t *testing.T) {
	eachDay(func(d api.Date, number, _ int) {
		checkNumber(t, d, number)
	})
}

// P4.2
func TestNumberOfNoDate(t *testing.T) {
	for _, d := range noDates() {
		if n, err := date.Number(d); err != api.ErrForm || n != 0 {
			t.Fatalf("Number(%v): %d, %v; want ErrForm", d, n, err)
		}
	}
}

// P4.2: the numbers ahead of the first date and behind the last one, and those that are far.
func TestOfNoNumber(t *testing.T) {
	for _, n := range []int{-25568, -25569, -25567 - 366, -719163, math.MinInt32, math.MinInt + 25567, math.MinInt + 1, math.MinInt, 84006, 84007, 84005 + 366, math.MaxInt32, math.MaxInt - 719162, math.MaxInt - 1, math.MaxInt} {
		if d, err := date.Of(n); err != api.ErrArg || d != (api.Date{}) {
			t.Fatalf("Of(%d): %v, %v; want ErrArg", n, d, err)
		}
	}
}

// P4.3
func TestMonths(t *testing.T) {
	checkMonths(t, day(2024, 1, 31), 1, day(2024, 2, 29))
	checkMonths(t, day(2023, 1, 31), 1, day(2023, 2, 28))
	checkMonths(t, day(2024, 1, 29), 1, day(2024, 2, 29))
	checkMonths(t, day(2023, 1, 29), 1, day(2023, 2, 28))
	checkMonths(t, day(2024, 1, 31), 2, day(2024, 3, 31))
	checkMonths(t, day(2024, 1, 31), 3, day(2024, 4, 30))
	checkMonths(t, day(2024, 1, 30), 3, day(2024, 4, 30))
	checkMonths(t, day(2024, 2, 29), 1, day(2024, 3, 29))
	checkMonths(t, day(2024, 2, 29), 12, day(2025, 2, 28))
	checkMonths(t, day(2024, 2, 29), 48, day(2028, 2, 29))
	checkMonths(t, day(2024, 2, 29), -12, day(2023, 2, 28))
	checkMonths(t, day(2024, 3, 31), -1, day(2024, 2, 29))
	checkMonths(t, day(2024, 5, 31), -1, day(2024, 4, 30))
	checkMonths(t, day(2024, 1, 31), -1, day(2023, 12, 31))
	checkMonths(t, day(2024, 12, 15), 1, day(2025, 1, 15))
	checkMonths(t, day(2024, 11, 15), 1, day(2024, 12, 15))
	checkMonths(t, day(2024, 12, 15), 12, day(2025, 12, 15))
	checkMonths(t, day(2024, 1, 15), -12, day(2023, 1, 15))
	checkMonths(t, day(2024, 1, 15), -13, day(2022, 12, 15))
	checkMonths(t, day(2100, 1, 31), 1, day(2100, 2, 28))
	checkMonths(t, day(2024, 1, 31), 0, day(2024, 1, 31))
	checkMonths(t, day(2024, 2, 29), 0, day(2024, 2, 29))
}

// P4.3: from each month to months of all years, as they stand one behind the other.
func TestMonthsOfAllYears(t *testing.T) {
	l := allMonths()
	for i, from := range l {
		for j := i % 13; j < len(l); j += 13 {
			to := l[j]
			for _, d := range []int{1, 28, 29, 30, 31} {
				if d <= from.days {
					checkMonths(t, day(from.y, from.m, d), j-i, day(to.y, to.m, min(d, to.days)))
				}
			}
		}
	}
}

// P4.3: the first and the last of all months, and those that are one further.
func TestMonthsAtEdges(t *testing.T) {
	l := allMonths()
	for i, from := range l {
		d := day(from.y, from.m, from.days)
		checkMonths(t, d, -i, day(1900, 1, from.days))
		checkMonthsWrong(t, d, -i-1, api.ErrArg)
		checkMonthsWrong(t, d, -i-12, api.ErrArg)
		checkMonths(t, d, len(l)-1-i, day(2199, 12, from.days))
		checkMonthsWrong(t, d, len(l)-i, api.ErrArg)
		checkMonthsWrong(t, d, len(l)-i+11, api.ErrArg)
	}
	checkMonths(t, day(1900, 1, 31), 3599, day(2199, 12, 31))
	checkMonths(t, day(2199, 12, 31), -3599, day(1900, 1, 31))
}

// farMonths are numbers of months that lead out of all years, whatever the date.
func farMonths() []int {
	return []int{math.MinInt, math.MinInt + 1, math.MinInt / 12, math.MinInt32, -12 * 1900, -3601, -3600, 3600, 3601, 12 * 2199, math.MaxInt32, math.MaxInt / 12, math.MaxInt - 12*2199, math.MaxInt - 1, math.MaxInt}
}

// P4.3
func TestFarMonths(t *testing.T) {
	for _, d := range []api.Date{day(1900, 1, 1), day(1900, 12, 31), day(1970, 1, 1), day(2024, 2, 29), day(2199, 1, 31), day(2199, 12, 31)} {
		for _, n := range farMonths() {
			checkMonthsWrong(t, d, n, api.ErrArg)
		}
	}
}

// P4.3: a date that is none is told first, whatever the number of months.
func TestMonthsOfNoDate(t *testing.T) {
	for _, d := range noDates() {
		for _, n := range append(farMonths(), -3599, -12, -1, 0, 1, 12, 3599) {
			checkMonthsWrong(t, d, n, api.ErrForm)
		}
	}
}

// P4.3
func TestWeekday(t *testing.T) {
	checkWeekday(t, day(2026, 11, 15), 0)
	checkWeekday(t, day(2026, 11, 16), 1)
	checkWeekday(t, day(2026, 11, 17), 2)
	checkWeekday(t, day(2026, 11, 18), 3)
	checkWeekday(t, day(2026, 11, 19), 4)
	checkWeekday(t, day(2026, 11, 20), 5)
	checkWeekday(t, day(2026, 11, 21), 6)
	checkWeekday(t, day(2026, 11, 22), 0)
	checkWeekday(t, day(1970, 1, 1), 4)
	checkWeekday(t, day(1969, 12, 31), 3)
	checkWeekday(t, day(1969, 12, 28), 0)
	checkWeekday(t, day(1969, 7, 20), 0)
	checkWeekday(t, day(2000, 1, 1), 6)
	checkWeekday(t, day(2000, 2, 29), 2)
	checkWeekday(t, day(1900, 1, 1), 1)
	checkWeekday(t, day(2199, 12, 31), 2)
}

// P4.3 and P4.4: the next day's weekday is the next one.
func TestEachDayHasItsWeekday(t *testing.T) {
	eachDay(func(d api.Date, _, weekday int) {
		checkWeekday(t, d, weekday)
	})
}

// P4.3
func TestWeekdayOfNoDate(t *testing.T) {
	for _, d := range noDates() {
		if w, err := date.Weekday(d); err != api.ErrForm || w != 0 {
			t.Fatalf("Weekday(%v): %d, %v; want ErrForm", d, w, err)
		}
	}
}

// P4.3
func TestLast(t *testing.T) {
	checkLast(t, day(2024, 2, 1), day(2024, 2, 29))
	checkLast(t, day(2024, 2, 29), day(2024, 2, 29))
	checkLast(t, day(2023, 2, 14), day(2023, 2, 28))
	checkLast(t, day(2026, 11, 15), day(2026, 11, 30))
	checkLast(t, day(1900, 1, 1), day(1900, 1, 31))
	checkLast(t, day(2199, 12, 31), day(2199, 12, 31))
	for _, m := range allMonths() {
		for d := 1; d <= m.days; d++ {
			checkLast(t, day(m.y, m.m, d), day(m.y, m.m, m.days))
		}
	}
}

// P4.3
func TestLastOfNoDate(t *testing.T) {
	for _, d := range noDates() {
		if got, err := date.Last(d); err != api.ErrForm || got != (api.Date{}) {
			t.Fatalf("Last(%v): %v, %v; want ErrForm", d, got, err)
		}
	}
}

// P4.4: each of the calls told by the others.
func TestNumbersAndDatesBelongTogether(t *testing.T) {
	for n := -25567; n <= 84005; n++ {
		d, err := date.Of(n)
		if err != nil || !date.May(d) {
			t.Fatalf("Of(%d): %v, %v", n, d, err)
		}
		if back, err := date.Number(d); err != nil || back != n {
			t.Fatalf("Number(%v): %d, %v; want %d", d, back, err, n)
		}
		next, err := date.Of(n + 1)
		if err != nil {
			if n != 84005 {
				t.Fatalf("Of(%d): %v", n+1, err)
			}
			continue
		}
		if number, err := date.Number(next); err != nil || number != n+1 {
			t.Fatalf("Number(%v): %d, %v; want %d", next, number, err, n+1)
		}
		w, err := date.Weekday(d)
		if err != nil {
			t.Fatalf("Weekday(%v): %v", d, err)
		}
		checkWeekday(t, next, (w+1)%7)
	}
}

// P4.4: of days up to the 28th months one behind the other are all of them at once; there and back is the same day.
func TestMonthsOneBehindTheOther(t *testing.T) {
	steps := []int{-1200, -120, -25, -13, -12, -11, -2, -1, 0, 1, 2, 11, 12, 13, 24, 37, 360, 1199}
	for i, m := range allMonths() {
		for d := 1 + i%3; d <= 28; d += 3 {
			from := day(m.y, m.m, d)
			for _, a := range steps {
				between, err := date.Months(from, a)
				if err != nil {
					continue
				}
				checkMonths(t, between, -a, from)
				for _, b := range steps {
					one, errOne := date.Months(between, b)
					all, errAll := date.Months(from, a+b)
					if one != all || errOne != errAll {
						t.Fatalf("%v, %d months and %d more: %v, %v; at once %v, %v", from, a, b, one, errOne, all, errAll)
					}
				}
			}
		}
	}
}
