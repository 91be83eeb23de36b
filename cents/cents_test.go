package cents_test

import (
	"math"
	"math/big"
	"slices"
	"testing"

	"trivet/api"
	"trivet/cents"
)

const (
	least    = math.MinInt64
	greatest = math.MaxInt64
)

var modes = []int{api.RoundDown, api.RoundUp, api.RoundNear, api.RoundEven}

// edges are numbers at which signs, halves or room change.
func edges() []int64 {
	l := []int64{0}
	for _, x := range []int64{1, 2, 3, 4, 5, 6, 7, 10, 12, 100, 12_000_000, 1<<31 - 1, 1 << 31, 1 << 32, 3_037_000_499, 3_037_000_500, api.MaxCents, 1<<62 - 1, 1 << 62, 1<<62 + 1, greatest - 2, greatest - 1, greatest} {
		l = append(l, x, -x)
	}
	return append(l, least)
}

// check holds an answer against the exact one; room is told by whether that is a number of 64 bits.
func check(t *testing.T, got int64, err error, exact *big.Int, what ...any) {
	t.Helper()
	if exact.IsInt64() {
		if err != nil || got != exact.Int64() {
			t.Errorf("%v: %d, %v; want %s", what, got, err, exact)
		}
		return
	}
	if err != api.ErrOver || got != 0 {
		t.Errorf("%v: %d, %v; want ErrOver, for %s", what, got, err, exact)
	}
}

// quotient is the exact a*b/c, rounded as the document's words say.
func quotient(a, b, c int64, mode int) *big.Int {
	product := new(big.Int).Mul(big.NewInt(a), big.NewInt(b))
	divisor := big.NewInt(c)
	if c < 0 {
		product.Neg(product)
		divisor.Neg(divisor)
	}
	below, rest := new(big.Int), new(big.Int)
	below.DivMod(product, divisor, rest)
	if rest.Sign() == 0 {
		return below
	}
	above := new(big.Int).Add(below, big.NewInt(1))
	switch mode {
	case api.RoundDown:
		return below
	case api.RoundUp:
		return above
	}
	switch twice := new(big.Int).Lsh(rest, 1); twice.Cmp(divisor) {
	case -1:
		return below
	case 1:
		return above
	}
	if mode == api.RoundNear && product.Sign() > 0 || mode == api.RoundEven && below.Bit(0) == 1 {
		return above
	}
	return below
}

type pair struct {
	a, b, want int64
	err        error
}

func checkPairs(t *testing.T, call func(a, b int64) (int64, error), l []pair) {
	t.Helper()
	for _, x := range l {
		if v, err := call(x.a, x.b); v != x.want || err != x.err {
			t.Errorf("%v: %d, %v", x, v, err)
		}
	}
}

// P1.1
func TestAdd(t *testing.T) {
	checkPairs(t, cents.Add, []pair{
		{0, 0, 0, nil},
		{2, 3, 5, nil},
		{-2, 3, 1, nil},
		{greatest, 0, greatest, nil},
		{greatest, 1, 0, api.ErrOver},
		{greatest, greatest, 0, api.ErrOver},
		{least, 0, least, nil},
		{least, -1, 0, api.ErrOver},
		{least, least, 0, api.ErrOver},
		{least, greatest, -1, nil},
		{-1, least + 1, least, nil},
	})
	for _, a := range edges() {
		for _, b := range edges() {
			v, err := cents.Add(a, b)
			check(t, v, err, new(big.Int).Add(big.NewInt(a), big.NewInt(b)), "Add", a, b)
		}
	}
}

// P1.1
func TestSub(t *testing.T) {
	checkPairs(t, cents.Sub, []pair{
		{0, 0, 0, nil},
		{2, 3, -1, nil},
		{0, greatest, -greatest, nil},
		{0, least, 0, api.ErrOver},
		{-1, least, greatest, nil},
		{least, least, 0, nil},
		{least, 1, 0, api.ErrOver},
		{greatest, -1, 0, api.ErrOver},
		{-2, greatest, 0, api.ErrOver},
		{-1, greatest, least, nil},
	})
	for _, a := range edges() {
		for _, b := range edges() {
			v, err := cents.Sub(a, b)
			check(t, v, err, new(big.Int).Sub(big.NewInt(a), big.NewInt(b)), "Sub", a, b)
		}
	}
}

// P1.1
func TestMul(t *testing.T) {
	checkPairs(t, cents.Mul, []pair{
		{0, least, 0, nil},
		{-2, 3, -6, nil},
		{least, 1, least, nil},
		{least, -1, 0, api.ErrOver},
		{-1, least, 0, api.ErrOver},
		{1 << 62, 2, 0, api.ErrOver},
		{1 << 62, -2, least, nil},
		{1 << 32, 1 << 32, 0, api.ErrOver},
		{least, least, 0, api.ErrOver},
		{3_037_000_499, 3_037_000_499, 9223372030926249001, nil},
		{3_037_000_500, 3_037_000_500, 0, api.ErrOver},
	})
	for _, a := range edges() {
		for _, b := range edges() {
			v, err := cents.Mul(a, b)
			check(t, v, err, new(big.Int).Mul(big.NewInt(a), big.NewInt(b)), "Mul", a, b)
		}
	}
}

// P1.1
func TestSum(t *testing.T) {
	for _, x := range []struct {
		l    []int64
		want int64
		err  error
	}{
		{nil, 0, nil},
		{[]int64{}, 0, nil},
		{[]int64{least}, least, nil},
		{[]int64{1, 2, 3, -10}, -4, nil},
		{[]int64{greatest, 1, -1}, greatest, nil},
		{[]int64{least, -1, 1}, least, nil},
		{[]int64{greatest, greatest, least, least}, -2, nil},
		{[]int64{least, least, greatest, greatest, 2}, 0, nil},
		{[]int64{greatest, 1}, 0, api.ErrOver},
		{[]int64{least, -1}, 0, api.ErrOver},
		{[]int64{1, -1, greatest, 1}, 0, api.ErrOver},
		// These go round to 0 in 64 bits, or behind the last bit of them.
		{[]int64{least, least}, 0, api.ErrOver},
		{[]int64{least, least, least, least}, 0, api.ErrOver},
		{[]int64{greatest, greatest, 2}, 0, api.ErrOver},
		{[]int64{greatest, greatest, 3, -1}, 0, api.ErrOver},
	} {
		if v, err := cents.Sum(x.l...); v != x.want || err != x.err {
			t.Errorf("%v: %d, %v", x, v, err)
		}
	}
	if v, err := cents.Sum(); v != 0 || err != nil {
		t.Errorf("of none: %d, %v", v, err)
	}
}

// P1.1: all sums of three edges, and one of very many numbers.
func TestSumIsExact(t *testing.T) {
	for _, a := range edges() {
		for _, b := range edges() {
			ab := new(big.Int).Add(big.NewInt(a), big.NewInt(b))
			for _, c := range edges() {
				v, err := cents.Sum(a, b, c)
				check(t, v, err, new(big.Int).Add(ab, big.NewInt(c)), "Sum", a, b, c)
			}
		}
	}
	many := make([]int64, 0, 200_001)
	for range 100_000 {
		many = append(many, greatest)
	}
	if v, err := cents.Sum(many...); v != 0 || err != api.ErrOver {
		t.Errorf("100000 times the greatest: %d, %v", v, err)
	}
	for range 100_000 {
		many = append(many, least)
	}
	many = append(many, 7)
	if v, err := cents.Sum(many...); v != -99_993 || err != nil {
		t.Errorf("100000 times the greatest and the least, and 7: %d, %v", v, err)
	}
}

// P1.2: halves, and what is beside them, of either sign, in the order down, up, near, even.
func TestMulDivRounds(t *testing.T) {
	for _, x := range []struct {
		a, b, c int64
		want    [4]int64
	}{
		{0, 5, -3, [4]int64{0, 0, 0, 0}},
		{6, 1, 2, [4]int64{3, 3, 3, 3}},
		{-6, 1, 2, [4]int64{-3, -3, -3, -3}},
		{1, 1, 2, [4]int64{0, 1, 1, 0}},
		{-1, 1, 2, [4]int64{-1, 0, -1, 0}},
		{3, 1, 2, [4]int64{1, 2, 2, 2}},
		{-3, 1, 2, [4]int64{-2, -1, -2, -2}},
		{5, 1, 2, [4]int64{2, 3, 3, 2}},
		{5, -1, 2, [4]int64{-3, -2, -3, -2}},
		{5, 1, -2, [4]int64{-3, -2, -3, -2}},
		{-5, 1, -2, [4]int64{2, 3, 3, 2}},
		{7, 1, 2, [4]int64{3, 4, 4, 4}},
		{-7, 1, 2, [4]int64{-4, -3, -4, -4}},
		{1, 1, 3, [4]int64{0, 1, 0, 0}},
		{-1, 1, 3, [4]int64{-1, 0, 0, 0}},
		{2, 1, 3, [4]int64{0, 1, 1, 1}},
		{2, -1, 3, [4]int64{-1, 0, -1, -1}},
		{1, 1, greatest, [4]int64{0, 1, 0, 0}},
		{1, 1, least, [4]int64{-1, 0, 0, 0}},
		{greatest, 1, least, [4]int64{-1, 0, -1, -1}},
		{1 << 62, 1, least, [4]int64{-1, 0, -1, 0}},
		{1 << 62, 3, least, [4]int64{-2, -1, -2, -2}},
		{20_000_000, 60_000, 12_000_000, [4]int64{100_000, 100_000, 100_000, 100_000}},
	} {
		for i, mode := range modes {
			if v, err := cents.MulDiv(x.a, x.b, x.c, mode); v != x.want[i] || err != nil {
				t.Errorf("%d * %d / %d, mode %d: %d, %v; want %d", x.a, x.b, x.c, mode, v, err, x.want[i])
			}
		}
	}
}

// P1.2: products of more than 64 bits, and quotients at the least and the greatest number.
func TestMulDivRoom(t *testing.T) {
	const none = 0 // beside over: there is no number
	type row struct {
		a, b, c int64
		want    [4]int64
		over    [4]bool
	}
	exact := func(a, b, c, want int64) row {
		return row{a, b, c, [4]int64{want, want, want, want}, [4]bool{}}
	}
	never := func(a, b, c int64) row {
		return row{a, b, c, [4]int64{}, [4]bool{true, true, true, true}}
	}
	for _, x := range []row{
		exact(greatest, greatest, greatest, greatest),
		exact(greatest, greatest, -greatest, -greatest),
		exact(greatest, 1<<62+1, 1<<62+1, greatest),
		exact(least, least, least, least),
		exact(least, greatest, greatest, least),
		exact(least, greatest, least, greatest),
		exact(least, 1, 1, least),
		exact(least, -1, -1, least),
		exact(1<<62, 6, 4, 6917529027641081856),
		exact(1<<62, -6, 3, least),
		never(1<<62, 6, 3),
		never(1<<62, 4, 1),
		never(1<<62, -4, 1),
		never(least, -1, 1),
		never(least, 1, -1),
		never(least, least, 1),
		never(greatest, greatest, -1),
		never(greatest, 1<<62+1, 1<<62),
		// The greatest and a half, and the least and a half: the way of rounding tells whether it has room.
		{4294967295, 4294967297, 2, [4]int64{greatest, none, none, none}, [4]bool{false, true, true, true}},
		{4294967295, -4294967297, 2, [4]int64{least, -greatest, least, least}, [4]bool{}},
		{274177, 67280421310721, -2, [4]int64{none, least, none, least}, [4]bool{true, false, true, false}},
		never(274177, 67280421310721, 2),
		// 2^64 less a half: one more than the whole part would go round to 0.
		never(253921, 145295143558111, 2),
		never(-253921, 145295143558111, 2),
	} {
		for i, mode := range modes {
			var fault error
			if x.over[i] {
				fault = api.ErrOver
			}
			if v, err := cents.MulDiv(x.a, x.b, x.c, mode); v != x.want[i] || err != fault {
				t.Errorf("%d * %d / %d, mode %d: %d, %v; want %d, %v", x.a, x.b, x.c, mode, v, err, x.want[i], fault)
			}
		}
	}
}

// P1.2
func TestMulDivIsExact(t *testing.T) {
	for _, a := range edges() {
		for _, b := range edges() {
			for _, c := range edges() {
				if c == 0 {
					continue
				}
				for _, mode := range modes {
					v, err := cents.MulDiv(a, b, c, mode)
					check(t, v, err, quotient(a, b, c, mode), "MulDiv", a, b, c, mode)
				}
			}
		}
	}
}

// P1.2: ErrArg goes ahead of ErrOver, and no divisor and no way of rounding makes a call panic.
func TestMulDivWrong(t *testing.T) {
	for _, mode := range []int{least, -4, -1, 0, 5, 6, 1 << 32, 1<<32 + api.RoundUp, greatest} {
		for _, a := range edges() {
			for _, c := range edges() {
				if v, err := cents.MulDiv(a, greatest, c, mode); v != 0 || err != api.ErrArg {
					t.Errorf("%d * greatest / %d, mode %d: %d, %v", a, c, mode, v, err)
				}
			}
		}
	}
	for _, mode := range modes {
		for _, a := range edges() {
			for _, b := range edges() {
				if v, err := cents.MulDiv(a, b, 0, mode); v != 0 || err != api.ErrArg {
					t.Errorf("%d * %d / 0, mode %d: %d, %v", a, b, mode, v, err)
				}
			}
		}
	}
}

// P1.3
func TestHandedInIsNeitherChangedNorKept(t *testing.T) {
	l := []int64{greatest, greatest, least, least, 5, -7, 0}
	before := slices.Clone(l)
	first, err := cents.Sum(l[:5]...)
	if first != 3 || err != nil {
		t.Errorf("at first: %d, %v", first, err)
	}
	if !slices.Equal(l, before) {
		t.Errorf("changed to %v", l)
	}
	clear(l)
	if v, err := cents.Sum(l...); v != 0 || err != nil {
		t.Errorf("of what was cleared: %d, %v", v, err)
	}
	if v, err := cents.Sum(before[:5]...); v != first || err != nil {
		t.Errorf("once more: %d, %v", v, err)
	}
}

// P1.3: an answer hangs on nothing that was asked earlier.
func TestNothingIsKept(t *testing.T) {
	cents.Sum(greatest, greatest)
	cents.MulDiv(7, 1, 0, api.RoundUp)
	cents.MulDiv(7, 1, 2, api.RoundUp)
	if v, err := cents.MulDiv(7, 1, 2, api.RoundDown); v != 3 || err != nil {
		t.Errorf("MulDiv: %d, %v", v, err)
	}
	if v, err := cents.Sum(1, 2); v != 3 || err != nil {
		t.Errorf("Sum: %d, %v", v, err)
	}
}

// P1.4: where all four ways have room, down is at most 1 below up, and both others are one of them.
func TestWaysOfRoundingStandTogether(t *testing.T) {
	for _, a := range edges() {
		for _, b := range edges() {
			for _, c := range edges() {
				var v [4]int64
				room := c != 0
				for i, mode := range modes {
					var err error
					v[i], err = cents.MulDiv(a, b, c, mode)
					room = room && err == nil
				}
				if !room {
					continue
				}
				down, up, near, even := v[0], v[1], v[2], v[3]
				if down > up || up-down > 1 {
					t.Errorf("%d * %d / %d: down %d, up %d", a, b, c, down, up)
				}
				if near != down && near != up || even != down && even != up {
					t.Errorf("%d * %d / %d: down %d, up %d, near %d, even %d", a, b, c, down, up, near, even)
				}
			}
		}
	}
}

// P1.4
func TestMulDivByOneIsTheProduct(t *testing.T) {
	for _, a := range edges() {
		for _, b := range edges() {
			want, fault := cents.Mul(a, b)
			for _, mode := range modes {
				if v, err := cents.MulDiv(a, b, 1, mode); v != want || err != fault {
					t.Errorf("%d * %d / 1, mode %d: %d, %v; Mul: %d, %v", a, b, mode, v, err, want, fault)
				}
			}
		}
	}
}

// P1.4: the least number has no number of the other sign.
func TestBothSignsTurned(t *testing.T) {
	for _, a := range edges() {
		for _, b := range edges() {
			for _, c := range edges() {
				if a == least || c == least {
					continue
				}
				for _, mode := range modes {
					v, err := cents.MulDiv(a, b, c, mode)
					w, fault := cents.MulDiv(-a, b, -c, mode)
					if v != w || err != fault {
						t.Errorf("%d * %d / %d, mode %d: %d, %v; turned: %d, %v", a, b, c, mode, v, err, w, fault)
					}
				}
			}
		}
	}
}
