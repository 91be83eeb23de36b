package rate_test

import (
	"math"
	"math/big"
	"testing"

	"trivet/api"
	"trivet/rate"
)

// balances are balances that may be, at edges and between.
func balances() []int64 {
	return []int64{0, 1, 2, 19, 20, 39, 40, 41, 99, 100, 101, 300, 1200, 99_999, 12_345_678, 20_000_000, 1 << 31, 1 << 40, api.MaxCents / 2, api.MaxCents - 1, api.MaxCents}
}

// rates are rates that may be.
func rates() []int {
	return []int{0, 1, 11, 12, 1200, 29_999, 60_000, 120_000, 299_999, api.MaxRate}
}

// wrongs are balances and rates of which at least one may not be.
func wrongs() []struct {
	balance int64
	rate    int
} {
	return []struct {
		balance int64
		rate    int
	}{
		{-1, 0},
		{-1, 60_000},
		{math.MinInt64, 60_000},
		{api.MaxCents + 1, 0},
		{api.MaxCents + 1, 60_000},
		{math.MaxInt64, api.MaxRate},
		{0, -1},
		{100, -1},
		{100, math.MinInt32},
		{0, api.MaxRate + 1},
		{100, api.MaxRate + 1},
		{100, math.MaxInt32},
		{api.MaxCents, api.MaxRate + 1},
		{-1, -1},
		{-100, -60_000},
		{math.MaxInt64, math.MaxInt},
		{math.MinInt64, math.MinInt},
	}
}

// exactMonth is a month's interest by the document's words, in numbers that have always room.
func exactMonth(balance int64, rate int) int64 {
	product := new(big.Int).Mul(big.NewInt(balance), big.NewInt(int64(rate)))
	whole, rest := new(big.Int), new(big.Int)
	whole.DivMod(product, big.NewInt(12_000_000), rest)
	half := rest.Cmp(big.NewInt(6_000_000))
	if half > 0 || half == 0 && whole.Bit(0) == 1 {
		whole.Add(whole, big.NewInt(1))
	}
	return whole.Int64()
}

// exactLeft is what is left behind so many months; whether a balance was above MaxCents is told beside it.
func exactLeft(balance int64, rate int, payment int64, months int) (int64, bool) {
	for range months {
		balance += exactMonth(balance, rate)
		if payment >= balance {
			balance = 0
		} else {
			balance -= payment
		}
		if balance > 10_000_000_000_000 {
			return 0, true
		}
	}
	return balance, false
}

func checkLeft(t *testing.T, balance int64, r int, payment int64, months int, want int64, fault error) {
	t.Helper()
	if v, err := rate.Left(balance, r, payment, months); v != want || err != fault {
		t.Errorf("Left(%d, %d, %d, %d): %d, %v; want %d, %v", balance, r, payment, months, v, err, want, fault)
	}
}

func checkNext(t *testing.T, balance int64, r int, payment, want, interest int64, fault error) {
	t.Helper()
	if v, i, err := rate.Next(balance, r, payment); v != want || i != interest || err != fault {
		t.Errorf("Next(%d, %d, %d): %d, %d, %v; want %d, %d, %v", balance, r, payment, v, i, err, want, interest, fault)
	}
}

func checkLevel(t *testing.T, balance int64, r, months int, want int64, fault error) {
	t.Helper()
	if v, err := rate.Level(balance, r, months); v != want || err != fault {
		t.Errorf("Level(%d, %d, %d): %d, %v; want %d, %v", balance, r, months, v, err, want, fault)
	}
}

// P2.1: ordinary months, halves to even and what is beside them, and the greatest of both.
func TestMonth(t *testing.T) {
	for _, x := range []struct {
		balance int64
		rate    int
		want    int64
	}{
		{20_000_000, 60_000, 100_000},
		{0, 0, 0},
		{0, api.MaxRate, 0},
		{api.MaxCents, 0, 0},
		{99, 60_000, 0},
		{100, 60_000, 0},
		{101, 60_000, 1},
		{299, 60_000, 1},
		{300, 60_000, 2},
		{500, 60_000, 2},
		{501, 60_000, 3},
		{700, 60_000, 4},
		{5_999_999, 1, 0},
		{6_000_000, 1, 0},
		{6_000_001, 1, 1},
		{18_000_000, 1, 2},
		{30_000_000, 1, 2},
		{20, 300_000, 0},
		{60, 300_000, 2},
		{api.MaxCents, 1, 833_333},
		{api.MaxCents, api.MaxRate, 250_000_000_000},
		{api.MaxCents - 1, api.MaxRate, 250_000_000_000},
		{api.MaxCents - 20, api.MaxRate, 250_000_000_000},
		{api.MaxCents - 21, api.MaxRate, 249_999_999_999},
	} {
		if v, err := rate.Month(x.balance, x.rate); v != x.want || err != nil {
			t.Errorf("%v: %d, %v", x, v, err)
		}
	}
}

// P2.1
func TestMonthIsExact(t *testing.T) {
	for _, b := range balances() {
		for _, r := range rates() {
			if v, err := rate.Month(b, r); v != exactMonth(b, r) || err != nil {
				t.Errorf("Month(%d, %d): %d, %v; want %d", b, r, v, err, exactMonth(b, r))
			}
		}
	}
	for b := range int64(2000) {
		for _, r := range rates() {
			if v, err := rate.Month(b, r); v != exactMonth(b, r) || err != nil {
				t.Errorf("Month(%d, %d): %d, %v; want %d", b, r, v, err, exactMonth(b, r))
			}
		}
	}
}

// P2.1, P2.2, P2.3: no call takes a balance or a rate that may not be, whatever stands beside it.
func TestWrongBalanceAndRate(t *testing.T) {
	for _, x := range wrongs() {
		if v, err := rate.Month(x.balance, x.rate); v != 0 || err != api.ErrArg {
			t.Errorf("Month(%d, %d): %d, %v", x.balance, x.rate, v, err)
		}
		for _, payment := range []int64{math.MinInt64, -1, 0, 1, 60_000, math.MaxInt64} {
			checkNext(t, x.balance, x.rate, payment, 0, 0, api.ErrArg)
			for _, months := range []int{-1, 0, 1, 12, 480, 481} {
				checkLeft(t, x.balance, x.rate, payment, months, 0, api.ErrArg)
			}
		}
		for _, months := range []int{math.MinInt, -1, 0, 1, 12, 480, 481, math.MaxInt} {
			checkLevel(t, x.balance, x.rate, months, 0, api.ErrArg)
		}
	}
}

// P2.2: a payment of less than the interest, of all that is due and beside it, and of more.
func TestNext(t *testing.T) {
	checkNext(t, 10_000_000, 60_000, 60_000, 9_990_000, 50_000, nil)
	checkNext(t, 10_000_000, 60_000, 50_000, 10_000_000, 50_000, nil)
	checkNext(t, 10_000_000, 60_000, 49_999, 10_000_001, 50_000, nil)
	checkNext(t, 10_000_000, 60_000, 0, 10_050_000, 50_000, nil)
	checkNext(t, 10_000_000, 60_000, 10_049_999, 1, 50_000, nil)
	checkNext(t, 10_000_000, 60_000, 10_050_000, 0, 50_000, nil)
	checkNext(t, 10_000_000, 60_000, 10_050_001, 0, 50_000, nil)
	checkNext(t, 10_000_000, 60_000, math.MaxInt64, 0, 50_000, nil)
	checkNext(t, 1200, 0, 100, 1100, 0, nil)
	checkNext(t, 0, 60_000, 0, 0, 0, nil)
	checkNext(t, 0, api.MaxRate, 100, 0, 0, nil)
	checkNext(t, api.MaxCents, 0, 0, api.MaxCents, 0, nil)
	checkNext(t, api.MaxCents, api.MaxRate, math.MaxInt64, 0, 250_000_000_000, nil)
}

// P2.2: what is due may be above MaxCents, what is left may not.
func TestNextOver(t *testing.T) {
	checkNext(t, api.MaxCents, api.MaxRate, 250_000_000_000, api.MaxCents, 250_000_000_000, nil)
	checkNext(t, api.MaxCents, api.MaxRate, 249_999_999_999, 0, 0, api.ErrOver)
	checkNext(t, api.MaxCents, api.MaxRate, 0, 0, 0, api.ErrOver)
	checkNext(t, api.MaxCents, 1, 833_333, api.MaxCents, 833_333, nil)
	checkNext(t, api.MaxCents, 1, 833_332, 0, 0, api.ErrOver)
	// 9756097560976 and a fortieth of it are MaxCents.
	checkNext(t, 9_756_097_560_975, api.MaxRate, 0, 9_999_999_999_999, 243_902_439_024, nil)
	checkNext(t, 9_756_097_560_976, api.MaxRate, 0, api.MaxCents, 243_902_439_024, nil)
	checkNext(t, 9_756_097_560_977, api.MaxRate, 0, 0, 0, api.ErrOver)
	checkNext(t, 9_756_097_560_977, api.MaxRate, 1, api.MaxCents, 243_902_439_024, nil)
}

// P2.2: ErrArg goes ahead of ErrOver.
func TestWrongPayment(t *testing.T) {
	for _, payment := range []int64{-1, -100, math.MinInt64} {
		for _, b := range balances() {
			for _, r := range rates() {
				checkNext(t, b, r, payment, 0, 0, api.ErrArg)
				for _, months := range []int{0, 1, 2, 480} {
					checkLeft(t, b, r, payment, months, 0, api.ErrArg)
				}
			}
		}
	}
}

// P2.2
func TestLeft(t *testing.T) {
	checkLeft(t, 1200, 0, 100, 0, 1200, nil)
	checkLeft(t, 1200, 0, 100, 1, 1100, nil)
	checkLeft(t, 1200, 0, 100, 11, 100, nil)
	checkLeft(t, 1200, 0, 100, 12, 0, nil)
	checkLeft(t, 1200, 0, 100, 480, 0, nil)
	checkLeft(t, 1200, 0, 0, 480, 1200, nil)
	checkLeft(t, 10_000_000, 60_000, 60_000, 1, 9_990_000, nil)
	checkLeft(t, 10_000_000, 60_000, 60_000, 2, 9_979_950, nil)
	checkLeft(t, 10_000_000, 60_000, 50_000, 480, 10_000_000, nil)
	checkLeft(t, 10_000_000, 60_000, math.MaxInt64, 1, 0, nil)
	checkLeft(t, api.MaxCents, 0, 0, 480, api.MaxCents, nil)
	// A month's interest of 10 cents at 6 % is none, so they stay.
	checkLeft(t, 10, 60_000, 0, 480, 10, nil)
	for _, b := range balances() {
		for _, r := range rates() {
			checkLeft(t, b, r, 0, 0, b, nil)
			checkLeft(t, b, r, math.MaxInt64, 0, b, nil)
		}
	}
}

// P2.2
func TestLeftIsExact(t *testing.T) {
	for _, b := range balances() {
		for _, r := range rates() {
			for _, payment := range []int64{0, 1, 2, 5, 100, 60_000, 20_833_333_334, 250_000_000_000, api.MaxCents, math.MaxInt64} {
				for _, months := range []int{0, 1, 2, 12, 360, 479, 480} {
					want, over := exactLeft(b, r, payment, months)
					if over {
						checkLeft(t, b, r, payment, months, 0, api.ErrOver)
					} else {
						checkLeft(t, b, r, payment, months, want, nil)
					}
				}
			}
		}
	}
}

// P2.2: over is told of the first month behind which a balance is, and of each later one; of none ahead of it.
func TestLeftOver(t *testing.T) {
	checkLeft(t, api.MaxCents, 1200, 0, 0, api.MaxCents, nil)
	checkLeft(t, api.MaxCents, 1200, 0, 1, 0, api.ErrOver)
	checkLeft(t, api.MaxCents, api.MaxRate, 250_000_000_000, 480, api.MaxCents, nil)
	checkLeft(t, api.MaxCents, api.MaxRate, 249_999_999_999, 480, 0, api.ErrOver)
	// 5000000000000 grow by a fortieth a month: above twice as much behind 29 months.
	for months := range api.MaxMonths + 1 {
		want, over := exactLeft(5_000_000_000_000, api.MaxRate, 0, months)
		if over != (months >= 29) {
			t.Fatalf("behind %d months: over is %t", months, over)
		}
		if over {
			checkLeft(t, 5_000_000_000_000, api.MaxRate, 0, months, 0, api.ErrOver)
		} else {
			checkLeft(t, 5_000_000_000_000, api.MaxRate, 0, months, want, nil)
		}
	}
}

// P2.2: ErrArg goes ahead of ErrOver.
func TestLeftWrongMonths(t *testing.T) {
	for _, months := range []int{math.MinInt, -480, -1, 481, 1 << 20, math.MaxInt} {
		for _, b := range balances() {
			for _, r := range rates() {
				checkLeft(t, b, r, 0, months, 0, api.ErrArg)
				checkLeft(t, b, r, math.MaxInt64, months, 0, api.ErrArg)
			}
		}
	}
}

// P2.3
func TestLevel(t *testing.T) {
	checkLevel(t, 1200, 0, 12, 100, nil)
	checkLevel(t, 1201, 0, 12, 101, nil)
	checkLevel(t, 1199, 0, 12, 100, nil)
	checkLevel(t, 1, 0, 480, 1, nil)
	checkLevel(t, 480, 0, 480, 1, nil)
	checkLevel(t, 481, 0, 480, 2, nil)
	checkLevel(t, 10_000_000, 60_000, 1, 10_050_000, nil)
	checkLevel(t, 100, 60_000, 1, 100, nil)
	checkLevel(t, 101, 60_000, 1, 102, nil)
	checkLevel(t, 10_000_000, 60_000, 360, 59_956, nil)
	checkLevel(t, api.MaxCents, 0, 1, api.MaxCents, nil)
	checkLevel(t, api.MaxCents, 0, 480, 20_833_333_334, nil)
	checkLevel(t, api.MaxCents, api.MaxRate, 1, api.MaxCents+250_000_000_000, nil)
	for _, r := range rates() {
		for _, months := range []int{1, 2, 12, 479, 480} {
			checkLevel(t, 0, r, months, 0, nil)
		}
	}
}

// P2.3: held against all payments from 0 on, one by one.
func TestLevelIsTheLeast(t *testing.T) {
	for balance := int64(0); balance <= 400; balance += 7 {
		for _, r := range rates() {
			for _, months := range []int{1, 2, 3, 5, 12, 60, 480} {
				want := int64(0)
				for {
					if left, over := exactLeft(balance, r, want, months); left == 0 && !over {
						break
					}
					want++
				}
				checkLevel(t, balance, r, months, want, nil)
			}
		}
	}
}

// P2.3, P2.4: nothing is left with it, and with one cent less something is, or it came to more than MaxCents.
func TestLevelPaysOff(t *testing.T) {
	for _, b := range balances() {
		for _, r := range rates() {
			for _, months := range []int{1, 2, 3, 11, 12, 180, 360, 479, 480} {
				p, err := rate.Level(b, r, months)
				if err != nil {
					t.Errorf("Level(%d, %d, %d): %v", b, r, months, err)
					continue
				}
				if left, over := exactLeft(b, r, p, months); left != 0 || over {
					t.Errorf("Level(%d, %d, %d) is %d: %d left, over is %t", b, r, months, p, left, over)
				}
				checkLeft(t, b, r, p, months, 0, nil)
				if p == 0 {
					if b != 0 {
						t.Errorf("Level(%d, %d, %d) is 0", b, r, months)
					}
					continue
				}
				if left, over := exactLeft(b, r, p-1, months); left == 0 && !over {
					t.Errorf("Level(%d, %d, %d) is %d: a cent less pays it off", b, r, months, p)
				}
				if left, err := rate.Left(b, r, p-1, months); left == 0 && err != api.ErrOver {
					t.Errorf("Level(%d, %d, %d) is %d; with a cent less: %d, %v", b, r, months, p, left, err)
				}
			}
		}
	}
}

// P2.3
func TestLevelWrongMonths(t *testing.T) {
	for _, months := range []int{math.MinInt, -12, -1, 0, 481, 1 << 20, math.MaxInt} {
		for _, b := range balances() {
			for _, r := range rates() {
				checkLevel(t, b, r, months, 0, api.ErrArg)
			}
		}
	}
}

// P2.4: a month's interest of a greater balance, or at a greater rate, is no less.
func TestInterestOfMoreIsNoLess(t *testing.T) {
	month := func(b int64, r int) int64 {
		v, err := rate.Month(b, r)
		if err != nil {
			t.Fatalf("Month(%d, %d): %v", b, r, err)
		}
		return v
	}
	for _, b := range balances() {
		for _, r := range rates() {
			here := month(b, r)
			if b < api.MaxCents && month(b+1, r) < here {
				t.Errorf("Month(%d, %d) is %d, and less of a cent more", b, r, here)
			}
			if r < api.MaxRate && month(b, r+1) < here {
				t.Errorf("Month(%d, %d) is %d, and less at a greater rate", b, r, here)
			}
		}
	}
}

// P2.4: with a greater payment no more is left; more than MaxCents is more than all that has no error.
func TestGreaterPaymentLeavesNoMore(t *testing.T) {
	for _, b := range balances() {
		for _, r := range rates() {
			for _, months := range []int{0, 1, 2, 12, 480} {
				before := int64(math.MaxInt64)
				for _, payment := range []int64{0, 1, 2, 3, 10, 100, 60_000, 833_333, 20_833_333_334, 249_999_999_999, 250_000_000_000, 250_001_779_310, api.MaxCents, math.MaxInt64} {
					left, err := rate.Left(b, r, payment, months)
					if err == api.ErrOver {
						left = math.MaxInt64
					} else if err != nil {
						t.Fatalf("Left(%d, %d, %d, %d): %v", b, r, payment, months, err)
					}
					if left > before {
						t.Errorf("Left(%d, %d, %d, %d): %d, of less %d", b, r, payment, months, left, before)
					}
					before = left
				}
			}
		}
	}
}

// P2.4: months one behind the other are all of them at once; one of them is Next.
func TestMonthsBehindMonths(t *testing.T) {
	for _, b := range balances() {
		for _, r := range rates() {
			for _, payment := range []int64{0, 1, 100, 60_000, 250_000_000_000, math.MaxInt64} {
				next, _, fault := rate.Next(b, r, payment)
				checkLeft(t, b, r, payment, 1, next, fault)
				for _, first := range []int{0, 1, 7, 240} {
					for _, second := range []int{0, 1, 12, 240} {
						want, fault := rate.Left(b, r, payment, first)
						if fault == nil {
							want, fault = rate.Left(want, r, payment, second)
						}
						checkLeft(t, b, r, payment, first+second, want, fault)
					}
				}
			}
		}
	}
}

// R2: an answer hangs on nothing that was asked earlier.
func TestNothingIsKept(t *testing.T) {
	checkLevel(t, 10_000_000, 60_000, 360, 59_956, nil)
	checkLeft(t, api.MaxCents, api.MaxRate, 0, 480, 0, api.ErrOver)
	checkNext(t, -1, 0, 0, 0, 0, api.ErrArg)
	checkLevel(t, 1200, 0, 12, 100, nil)
	checkLevel(t, 10_000_000, 60_000, 360, 59_956, nil)
	checkNext(t, 10_000_000, 60_000, 60_000, 9_990_000, 50_000, nil)
}
