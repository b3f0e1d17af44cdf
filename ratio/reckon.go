package ratio

import (
	"parquet/api"
	"parquet/wide"
)

// safe tells whether all may be reckoned with: then what two of them make has room.
func safe(l ...api.Rat) bool {
	for _, a := range l {
		if !Safe(a, api.Safe) {
			return false
		}
	}
	return true
}

// Cmp tells -1, 0 or 1: a is below b, the same, above it.
func Cmp(a, b api.Rat) (int, bool) {
	if !safe(a, b) {
		return 0, false
	}
	return wide.Cmp(times(a.N, b.D), times(b.N, a.D)), true
}

// Add tells the sum.
func Add(a, b api.Rat) (api.Rat, bool) {
	if !safe(a, b) {
		return api.Rat{}, false
	}
	return plus(a, b), true
}

// Sub tells a less b.
func Sub(a, b api.Rat) (api.Rat, bool) {
	if !safe(a, b) {
		return api.Rat{}, false
	}
	return plus(a, api.Rat{N: wide.Neg(b.N), D: b.D}), true
}

// Mul tells the product.
func Mul(a, b api.Rat) (api.Rat, bool) {
	if !safe(a, b) {
		return api.Rat{}, false
	}
	return product(a, b), true
}

// Div tells a by b; false by 0.
func Div(a, b api.Rat) (api.Rat, bool) {
	if !safe(a, b) || Sign(b) == 0 {
		return api.Rat{}, false
	}
	return product(a, upended(b)), true
}

// Sum tells the sum of all, added one by one from 0 on, or false as soon as one Add says so.
func Sum(l ...api.Rat) (api.Rat, bool) {
	sum, ok := whole(api.Wide{}), true
	for _, a := range l {
		if sum, ok = Add(sum, a); !ok {
			return api.Rat{}, false
		}
	}
	return sum, true
}

// Least tells the least of all, or false of none, or as soon as one Cmp says so; one alone is compared with none.
func Least(l ...api.Rat) (api.Rat, bool) {
	if len(l) == 0 {
		return api.Rat{}, false
	}
	least := l[0]
	for _, a := range l[1:] {
		c, ok := Cmp(a, least)
		if !ok {
			return api.Rat{}, false
		}
		if c < 0 {
			least = a
		}
	}
	return least, true
}

// times tells the product of two numbers that have room for it, as those of safe fractions have.
func times(a, b api.Wide) api.Wide {
	c, _ := wide.Mul(a, b)
	return c
}

// plus tells the sum of two safe fractions.
// Only what divides both numbers below the line may be common to the outcome's, so no common divisor of long numbers is sought.
func plus(a, b api.Rat) api.Rat {
	g := wide.Gcd(a.D, b.D)
	below := part(a.D, g)
	n, _ := wide.Add(times(a.N, part(b.D, g)), times(b.N, below))
	h := wide.Gcd(n, g)
	return api.Rat{N: part(n, h), D: times(below, part(b.D, h))}
}

// product tells the product of two safe fractions.
// What is above one line has something in common with what is below the other alone: that goes first.
func product(a, b api.Rat) api.Rat {
	g, h := wide.Gcd(a.N, b.D), wide.Gcd(b.N, a.D)
	return api.Rat{N: times(part(a.N, g), part(b.N, h)), D: times(part(a.D, h), part(b.D, g))}
}

// upended tells 1 by a, which isn't 0.
func upended(a api.Rat) api.Rat {
	if Sign(a) < 0 {
		return api.Rat{N: wide.Neg(a.D), D: wide.Neg(a.N)}
	}
	return api.Rat{N: a.D, D: a.N}
}
