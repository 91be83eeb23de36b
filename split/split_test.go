package split_test

import (
	"math"
	"math/big"
	"slices"
	"testing"

	"trivet/api"
	"trivet/split"
)

// exactShares are shares by the document's words, in numbers that have always room: one cent after the other is given away.
func exactShares(total int64, weights []int64) []int64 {
	all := new(big.Int)
	for _, w := range weights {
		all.Add(all, big.NewInt(w))
	}
	shares := make([]int64, len(weights))
	rests := make([]*big.Int, len(weights))
	left := total
	for i, w := range weights {
		whole, rest := new(big.Int), new(big.Int)
		whole.DivMod(new(big.Int).Mul(big.NewInt(total), big.NewInt(w)), all, rest)
		shares[i], rests[i] = whole.Int64(), rest
		left -= shares[i]
	}
	for range left {
		most := 0
		for i := range rests {
			if rests[i].Cmp(rests[most]) > 0 {
				most = i
			}
		}
		shares[most]++
		rests[most] = big.NewInt(-1)
	}
	return shares
}

// totals are totals that may be, at edges and between.
func totals() []int64 {
	return []int64{0, 1, 2, 3, 7, 99, 100, 101, 479, 480, 481, 12_345, 1 << 31, 1<<32 + 1, 9_999_999_999_971, api.MaxCents / 3, api.MaxCents - 1, api.MaxCents}
}

// times is a list of n times x.
func times(n int, x int64) []int64 {
	return slices.Repeat([]int64{x}, n)
}

// weightLists are lists of weights that may be.
func weightLists() [][]int64 {
	l := [][]int64{
		{1},
		{api.MaxCents},
		{1, 1, 1},
		{1, 2, 3},
		{3, 2, 1},
		{1, 0, 5, 6},
		{0, 0, 1},
		{0, 1, 0, 1, 0},
		{1, api.MaxCents},
		{api.MaxCents, 1},
		{api.MaxCents, api.MaxCents - 1, api.MaxCents - 2},
		{api.MaxCents - 2, api.MaxCents - 1, api.MaxCents},
		{0, api.MaxCents, 0, api.MaxCents, 1},
		{333_333_333_333, 666_666_666_667, 1_000_000_000_003},
		{57_500, 2_500, 0},
		times(479, 1),
		times(480, 1),
		times(480, api.MaxCents),
		append(times(479, 0), 1),
		append(times(479, 1), api.MaxCents),
		append(times(479, api.MaxCents), 1),
	}
	long, again := make([]int64, api.MaxShares), make([]int64, api.MaxShares)
	for i := range long {
		long[i] = int64(i) * 7_919_000_003 * int64(i) % (api.MaxCents + 1)
		// Few weights, each of them many times, in no order: of those equal ones the first are to be found.
		again[i] = 1 + int64(i*i*i+5*i)%11
	}
	return append(l, long, again, again[:40])
}

// eachCase calls with all totals and lists of weights above, and with all of few small ones.
func eachCase(call func(total int64, weights []int64)) {
	for _, total := range totals() {
		for _, weights := range weightLists() {
			call(total, weights)
		}
	}
	for n := 1; n <= 4; n++ {
		for code := range 625 {
			weights := make([]int64, n)
			for i, rest := 0, code; i < n; i, rest = i+1, rest/5 {
				weights[i] = int64(rest % 5)
			}
			if slices.Max(weights) == 0 {
				continue
			}
			for total := range int64(13) {
				call(total, weights)
			}
		}
	}
}

func checkShares(t *testing.T, total int64, weights, want []int64) {
	t.Helper()
	if l, err := split.Shares(total, weights); err != nil || !slices.Equal(l, want) {
		t.Errorf("Shares(%d, %v): %v, %v; want %v", total, weights, l, err, want)
	}
}

func checkEven(t *testing.T, total int64, n int, want []int64) {
	t.Helper()
	if l, err := split.Even(total, n); err != nil || !slices.Equal(l, want) {
		t.Errorf("Even(%d, %d): %v, %v; want %v", total, n, l, err, want)
	}
}

func checkWrong(t *testing.T, total int64, weights []int64) {
	t.Helper()
	if l, err := split.Shares(total, weights); l != nil || err != api.ErrArg {
		t.Errorf("Shares(%d, %v): %v, %v; want ErrArg", total, weights, l, err)
	}
}

func checkEvenWrong(t *testing.T, total int64, n int) {
	t.Helper()
	if l, err := split.Even(total, n); l != nil || err != api.ErrArg {
		t.Errorf("Even(%d, %d): %v, %v; want ErrArg", total, n, l, err)
	}
}

// P3.1: cents that are left go to those cut off by most, whatever their weight; of equal ones to the first.
func TestShares(t *testing.T) {
	checkShares(t, 100, []int64{1, 1, 1}, []int64{34, 33, 33})
	checkShares(t, 101, []int64{1, 1, 1}, []int64{34, 34, 33})
	checkShares(t, 102, []int64{1, 1, 1}, []int64{34, 34, 34})
	checkShares(t, 10, []int64{1, 0, 5, 6}, []int64{1, 0, 4, 5})
	checkShares(t, 10, []int64{6, 5, 0, 1}, []int64{5, 4, 0, 1})
	checkShares(t, 100, []int64{70, 20, 10}, []int64{70, 20, 10})
	// 0.3 and 2.7: the second is cut off by more.
	checkShares(t, 3, []int64{1, 9}, []int64{0, 3})
	// 3.6 and 2.4: here the first is; of 2.4 and 3.6 the second.
	checkShares(t, 6, []int64{3, 2}, []int64{4, 2})
	checkShares(t, 6, []int64{2, 3}, []int64{2, 4})
	// 0.5, 0, 0.5: equal ones, and none for the weight between.
	checkShares(t, 1, []int64{1, 0, 1}, []int64{1, 0, 0})
	checkShares(t, 1, []int64{0, 1, 0, 1}, []int64{0, 1, 0, 0})
	// 1.25, 1.75, 1.75, 1.25: two of the same rest, neither at an end.
	checkShares(t, 6, []int64{5, 7, 7, 5}, []int64{1, 2, 2, 1})
	checkShares(t, 5, []int64{5, 7, 7, 5}, []int64{1, 2, 1, 1})
	// 2.5 and 0.5 are cut off by the same, though their weights are not the same.
	checkShares(t, 3, []int64{1, 5}, []int64{1, 2})
	checkShares(t, 3, []int64{5, 1}, []int64{3, 0})
}

// P3.1: at the edges of totals, of weights and of how many there are.
func TestSharesAtEdges(t *testing.T) {
	checkShares(t, 0, []int64{1}, []int64{0})
	checkShares(t, 0, []int64{3, 0, 7}, []int64{0, 0, 0})
	checkShares(t, api.MaxCents, []int64{1}, []int64{api.MaxCents})
	checkShares(t, api.MaxCents, []int64{api.MaxCents}, []int64{api.MaxCents})
	checkShares(t, 1, []int64{api.MaxCents, api.MaxCents}, []int64{1, 0})
	checkShares(t, api.MaxCents, []int64{api.MaxCents, api.MaxCents}, []int64{api.MaxCents / 2, api.MaxCents / 2})
	checkShares(t, api.MaxCents, []int64{0, api.MaxCents, 0}, []int64{0, api.MaxCents, 0})
	// A rest of 1 and one of MaxCents.
	checkShares(t, api.MaxCents, []int64{1, api.MaxCents}, []int64{1, api.MaxCents - 1})
	checkShares(t, api.MaxCents, []int64{api.MaxCents, 1}, []int64{api.MaxCents - 1, 1})
	checkShares(t, 479, times(480, api.MaxCents), append(times(479, 1), 0))
	checkShares(t, 481, times(480, 1), append([]int64{2}, times(479, 1)...))
	checkShares(t, api.MaxCents, times(480, api.MaxCents), append(times(160, 20_833_333_334), times(320, 20_833_333_333)...))
	checkShares(t, 7, append(times(479, 0), 1), append(times(479, 0), 7))
}

// P3.1
func TestSharesAreExact(t *testing.T) {
	eachCase(func(total int64, weights []int64) {
		checkShares(t, total, weights, exactShares(total, weights))
	})
}

// P3.1
func TestWrongTotal(t *testing.T) {
	for _, total := range []int64{math.MinInt64, -api.MaxCents, -1, api.MaxCents + 1, 1 << 62, math.MaxInt64} {
		for _, weights := range weightLists() {
			checkWrong(t, total, weights)
		}
		checkWrong(t, total, nil)
		checkWrong(t, total, []int64{0, -1})
		for _, n := range []int{math.MinInt, -1, 0, 1, 3, 480, 481, math.MaxInt} {
			checkEvenWrong(t, total, n)
		}
	}
}

// P3.1: a weight that may not be is found wherever it stands, also where the sum may be, or is 0.
func TestWrongWeights(t *testing.T) {
	for _, total := range totals() {
		checkWrong(t, total, nil)
		checkWrong(t, total, []int64{})
		checkWrong(t, total, []int64{0})
		checkWrong(t, total, []int64{0, 0, 0})
		checkWrong(t, total, times(480, 0))
		checkWrong(t, total, times(481, 0))
		checkWrong(t, total, times(481, 1))
		checkWrong(t, total, append(times(480, 0), 1))
		checkWrong(t, total, times(100_000, 1))
		for _, w := range []int64{math.MinInt64, -api.MaxCents, -1, api.MaxCents + 1, 1 << 62, math.MaxInt64} {
			checkWrong(t, total, []int64{w})
			checkWrong(t, total, []int64{w, 2, 3})
			checkWrong(t, total, []int64{2, w, 3})
			checkWrong(t, total, []int64{2, 3, w})
			checkWrong(t, total, []int64{0, w})
			checkWrong(t, total, []int64{w, w})
			checkWrong(t, total, append(times(479, 1), w))
		}
		checkWrong(t, total, []int64{1, -1})
		checkWrong(t, total, []int64{math.MinInt64, math.MinInt64})
		checkWrong(t, total, []int64{math.MinInt64, math.MaxInt64, 2})
	}
}

// P3.2
func TestEven(t *testing.T) {
	checkEven(t, 11, 4, []int64{3, 3, 3, 2})
	checkEven(t, 12, 4, []int64{3, 3, 3, 3})
	checkEven(t, 100, 3, []int64{34, 33, 33})
	checkEven(t, 120, 12, times(12, 10))
	checkEven(t, 1, 3, []int64{1, 0, 0})
	checkEven(t, 0, 1, []int64{0})
	checkEven(t, 0, 3, []int64{0, 0, 0})
	checkEven(t, 1, 1, []int64{1})
	checkEven(t, api.MaxCents, 1, []int64{api.MaxCents})
	checkEven(t, api.MaxCents, 3, []int64{3_333_333_333_334, 3_333_333_333_333, 3_333_333_333_333})
	checkEven(t, 479, 480, append(times(479, 1), 0))
	checkEven(t, api.MaxCents, 480, append(times(160, 20_833_333_334), times(320, 20_833_333_333)...))
}

// P3.2: for each n, by plain division.
func TestEvenIsOfTheSameWeight(t *testing.T) {
	for n := 1; n <= api.MaxShares; n++ {
		for _, total := range totals() {
			want := times(n, total/int64(n))
			for i := range total % int64(n) {
				want[i]++
			}
			checkEven(t, total, n, want)
			checkShares(t, total, times(n, 1), want)
			checkShares(t, total, times(n, api.MaxCents), want)
		}
	}
}

// P3.2
func TestEvenOfWrongNumbers(t *testing.T) {
	for _, total := range totals() {
		for _, n := range []int{math.MinInt, -480, -1, 0, 481, 1 << 20, math.MaxInt} {
			checkEvenWrong(t, total, n)
		}
	}
}

// P3.3: also what lies behind the list in its memory stays.
func TestWhatIsHandedInStays(t *testing.T) {
	eachCase(func(total int64, weights []int64) {
		given := append(slices.Clone(weights), times(8, -5)...)
		split.Shares(total, given[:len(weights)])
		if !slices.Equal(given[:len(weights)], weights) || !slices.Equal(given[len(weights):], times(8, -5)) {
			t.Errorf("Shares(%d, %v) left %v", total, weights, given)
		}
	})
	for _, weights := range [][]int64{{0, 0}, {3, -1, 2}, {2, api.MaxCents + 1}} {
		given := slices.Clone(weights)
		split.Shares(7, given)
		if !slices.Equal(given, weights) {
			t.Errorf("Shares(7, %v) left %v", weights, given)
		}
	}
}

// P3.3: what is told is changed neither by the list's owner nor by a later call, and it is the caller's to change.
func TestWhatIsToldIsNew(t *testing.T) {
	weights := []int64{1, 1, 1}
	first, _ := split.Shares(100, weights)
	clear(weights)
	weights[1] = 5
	second, _ := split.Shares(7, weights)
	if !slices.Equal(first, []int64{34, 33, 33}) || !slices.Equal(second, []int64{0, 7, 0}) {
		t.Errorf("%v, %v", first, second)
	}
	clear(second)
	if !slices.Equal(first, []int64{34, 33, 33}) || !slices.Equal(weights, []int64{0, 5, 0}) {
		t.Errorf("%v, %v", first, weights)
	}
	one, _ := split.Even(11, 4)
	clear(one)
	two, _ := split.Even(11, 4)
	_ = append(two[:2], -1, -1)
	checkEven(t, 11, 4, []int64{3, 3, 3, 2})
	if !slices.Equal(one, []int64{0, 0, 0, 0}) {
		t.Errorf("%v", one)
	}
}

// P3.4: shares sum to the total; each is less than a cent from its quotient; of weight 0 it is 0.
func TestSharesSumAndAreNear(t *testing.T) {
	eachCase(func(total int64, weights []int64) {
		l, err := split.Shares(total, weights)
		if err != nil || len(l) != len(weights) {
			t.Fatalf("Shares(%d, %v): %v, %v", total, weights, l, err)
		}
		sum, all := int64(0), int64(0)
		for i, w := range weights {
			sum += l[i]
			all += w
		}
		if sum != total {
			t.Errorf("Shares(%d, %v): %v, which sum to %d", total, weights, l, sum)
		}
		for i, w := range weights {
			if w == 0 && l[i] != 0 {
				t.Errorf("Shares(%d, %v): %v; number %d has no weight", total, weights, l, i)
			}
			far := new(big.Int).Mul(big.NewInt(l[i]), big.NewInt(all))
			far.Sub(far, new(big.Int).Mul(big.NewInt(total), big.NewInt(w)))
			if far.CmpAbs(big.NewInt(all)) >= 0 {
				t.Errorf("Shares(%d, %v): %v; number %d is a cent or more from its quotient", total, weights, l, i)
			}
		}
	})
}

// P3.4: of equal weights earlier ones get no less.
func TestEarlierOnesGetNoLess(t *testing.T) {
	eachCase(func(total int64, weights []int64) {
		l, err := split.Shares(total, weights)
		if err != nil {
			t.Fatalf("Shares(%d, %v): %v", total, weights, err)
		}
		last := map[int64]int64{}
		for i, w := range weights {
			if before, ok := last[w]; ok && l[i] > before {
				t.Errorf("Shares(%d, %v): %v; number %d gets more than one of the same weight ahead of it", total, weights, l, i)
			}
			last[w] = l[i]
		}
	})
}
