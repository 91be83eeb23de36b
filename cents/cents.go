// Package cents is layer 1: see shared/doc/01-cents.md.
package cents

import (
	"math/bits"

	"trivet/api"
)

// Add is a sum: P1.1.
func Add(a, b int64) (int64, error) {
	s := a + b
	if (a < 0) == (b < 0) && (s < 0) != (a < 0) {
		return 0, api.ErrOver
	}
	return s, nil
}

// Sub is a difference: P1.1.
func Sub(a, b int64) (int64, error) {
	d := a - b
	if (a < 0) != (b < 0) && (d < 0) != (a < 0) {
		return 0, api.ErrOver
	}
	return d, nil
}

// Mul is a product: P1.1.
func Mul(a, b int64) (int64, error) {
	return MulDiv(a, b, 1, api.RoundDown)
}

// Sum is a sum of many: P1.1.
func Sum(l ...int64) (int64, error) {
	// The sum is kept in 128 bits: its parts may have no room in 64 though the whole has.
	var high, low uint64
	for _, x := range l {
		var carry uint64
		low, carry = bits.Add64(low, uint64(x), 0)
		high, _ = bits.Add64(high, signBits(x), carry)
	}
	if high != signBits(int64(low)) {
		return 0, api.ErrOver
	}
	return int64(low), nil
}

// MulDiv is a quotient of a product: P1.2.
func MulDiv(a, b, c int64, mode int) (int64, error) {
	if c == 0 || mode < api.RoundDown || mode > api.RoundEven {
		return 0, api.ErrArg
	}
	divisor := magnitude(c)
	high, low := bits.Mul64(magnitude(a), magnitude(b))
	// Div64 panics where the quotient has no room in 64 bits.
	if high >= divisor {
		return 0, api.ErrOver
	}
	quotient, rest := bits.Div64(high, low, divisor)
	// One more than the greatest uint64 would go round to 0 below, so what is too great whatever the rounding goes first.
	if quotient > 1<<63 {
		return 0, api.ErrOver
	}
	negative := ((a < 0) != (b < 0)) != (c < 0)
	if away(quotient, rest, divisor, negative, mode) {
		quotient++
	}
	return signed(quotient, negative)
}

// signBits is what stands above a number's 64 bits when it is written in 128.
func signBits(x int64) uint64 {
	return uint64(x >> 63)
}

// magnitude is a number without its sign: the least number has room so.
func magnitude(x int64) uint64 {
	if x < 0 {
		return -uint64(x)
	}
	return uint64(x)
}

// away tells whether the quotient's magnitude is rounded away from 0, to the next one.
func away(quotient, rest, divisor uint64, negative bool, mode int) bool {
	// The rest is held against what it lacks to the divisor: twice the rest might have no room.
	lack := divisor - rest
	switch mode {
	case api.RoundDown:
		return negative && rest > 0
	case api.RoundUp:
		return !negative && rest > 0
	case api.RoundNear:
		return rest >= lack
	default:
		return rest > lack || rest == lack && quotient%2 == 1
	}
}

// signed is the number of that magnitude and sign.
func signed(m uint64, negative bool) (int64, error) {
	if negative {
		if m > 1<<63 {
			return 0, api.ErrOver
		}
		return int64(-m), nil
	}
	if m >= 1<<63 {
		return 0, api.ErrOver
	}
	return int64(m), nil
}
