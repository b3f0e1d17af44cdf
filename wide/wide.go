// Package wide: whole numbers of 1024 bits: see doc/01-wide.md.
package wide

import (
	"math"

	"parquet/api"
)

// signed makes a number of a sign and an amount; a 0 loses its sign, so that whatever is told is as Is asks.
func signed(neg bool, d amount) api.Wide {
	return api.Wide{Neg: neg && length(d) > 0, D: d}
}

// fitting is signed for what may have been too great.
func fitting(neg bool, d amount, ok bool) (api.Wide, bool) {
	if !ok {
		return api.Wide{}, false
	}
	return signed(neg, d), true
}

// From tells n as a wide number.
func From(n int64) api.Wide {
	u := uint64(n)
	if n < 0 {
		u = -u // wraps round to the amount, of the least int64 too
	}
	return signed(n < 0, fromUint(u))
}

// Int tells a as an int64, or false if it isn't one.
func Int(a api.Wide) (int64, bool) {
	if length(a.D) > 2 {
		return 0, false
	}
	u := lowUint(a.D)
	if a.Neg && u <= 1<<63 {
		return int64(-u), true
	}
	if u <= math.MaxInt64 {
		return int64(u), true
	}
	return 0, false
}

// Is tells whether a is written as a number is: a 0 isn't Neg.
func Is(a api.Wide) bool {
	return !a.Neg || length(a.D) > 0
}

// sign tells -1, 0 or 1; a 0 with Neg counts as 0.
func sign(a api.Wide) int {
	if length(a.D) == 0 {
		return 0
	}
	if a.Neg {
		return -1
	}
	return 1
}

// Cmp tells -1, 0 or 1: a is below b, the same, above it.
func Cmp(a, b api.Wide) int {
	s, t := sign(a), sign(b)
	if s < t {
		return -1
	}
	if s > t {
		return 1
	}
	return s * compare(a.D, b.D)
}

// Neg tells 0 less a.
func Neg(a api.Wide) api.Wide {
	return signed(!a.Neg, a.D)
}

// Add tells the sum, or false if it doesn't fit.
func Add(a, b api.Wide) (api.Wide, bool) {
	if a.Neg == b.Neg {
		d, ok := plus(a.D, b.D)
		return fitting(a.Neg, d, ok)
	}
	if compare(a.D, b.D) < 0 {
		a, b = b, a
	}
	return signed(a.Neg, minus(a.D, b.D)), true
}

// Sub tells a less b, or false if it doesn't fit.
func Sub(a, b api.Wide) (api.Wide, bool) {
	return Add(a, Neg(b))
}

// Mul tells the product, or false if it doesn't fit.
func Mul(a, b api.Wide) (api.Wide, bool) {
	d, ok := times(a.D, b.D)
	return fitting(a.Neg != b.Neg, d, ok)
}

// DivMod tells the quotient, rounded towards 0, and the rest, of a's sign; false by 0.
func DivMod(a, b api.Wide) (api.Wide, api.Wide, bool) {
	if length(b.D) == 0 {
		return api.Wide{}, api.Wide{}, false
	}
	q, r := divide(a.D, b.D)
	return signed(a.Neg != b.Neg, q), signed(a.Neg, r), true
}

// Gcd tells the greatest number that divides both, not below 0.
func Gcd(a, b api.Wide) api.Wide {
	return signed(false, common(a.D, b.D))
}

// Shl tells a times 2 to the power of n (held from 0 to 1024), or false if it doesn't fit.
func Shl(a api.Wide, n int) (api.Wide, bool) {
	n = min(max(n, 0), api.Bits)
	size := bitLength(a.D)
	if size == 0 {
		return api.Wide{}, true
	}
	if size+n > api.Bits {
		return api.Wide{}, false
	}
	return signed(a.Neg, shiftUp(a.D, n)), true
}

// Bits tells how many bits a's amount has.
func Bits(a api.Wide) int {
	return bitLength(a.D)
}

// Sum tells the sum of all, added one by one from 0 on, or false as soon as one doesn't fit.
func Sum(l ...api.Wide) (api.Wide, bool) {
	sum, ok := api.Wide{}, true
	for _, a := range l {
		if sum, ok = Add(sum, a); !ok {
			return api.Wide{}, false
		}
	}
	return sum, true
}
