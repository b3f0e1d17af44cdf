package wide

import (
	"math/bits"

	"parquet/api"
)

// longer is an amount with one word more: a number that is divided is shifted into it.
type longer = [api.Words + 1]uint32

// divide tells the quotient and the rest of d by e; e isn't 0.
func divide(d, e amount) (amount, amount) {
	n, m := length(d), length(e)
	if n < m {
		return amount{}, d
	}
	if n <= 2 {
		a, b := lowUint(d), lowUint(e)
		return fromUint(a / b), fromUint(a % b)
	}
	if m == 1 {
		q, r := divideWord(d, e[0])
		return q, amount{r}
	}
	return divideLong(d, e, n, m)
}

// divideWord tells the quotient and the rest of d by one word that isn't 0.
func divideWord(d amount, by uint32) (amount, uint32) {
	var q amount
	var rest uint64
	for i := length(d) - 1; i >= 0; i-- {
		t := rest<<wordBits | uint64(d[i])
		q[i] = uint32(t / uint64(by))
		rest = t % uint64(by)
	}
	return q, uint32(rest)
}

// divideLong divides n words by m, as by hand; m is 2 at least and n isn't below it.
// Both are shifted until e's highest bit is set: then a word guessed from the highest words is hardly ever wrong.
func divideLong(d, e amount, n, m int) (amount, amount) {
	shift := bits.LeadingZeros32(e[m-1])
	v := lengthen(e, shift, m)
	u := lengthen(d, shift, n)
	var q amount
	for j := n - m; j >= 0; j-- {
		part := u[j : j+m+1]
		guess := guessWord(part, v[:m])
		if takeTimes(part, v[:m], guess) {
			guess--
			giveBack(part, v[:m])
		}
		q[j] = guess
	}
	return q, shorten(u, shift, m)
}

// lengthen tells d's n words times 2 to the power of shift (below wordBits), which always fits.
func lengthen(d amount, shift, n int) longer {
	var u longer
	var carry uint64
	for i := range n {
		t := uint64(d[i])<<shift | carry
		u[i] = uint32(t)
		carry = t >> wordBits
	}
	u[n] = uint32(carry)
	return u
}

// shorten takes back what lengthen did; the rest is below the divisor, so it has m words at most.
func shorten(u longer, shift, m int) amount {
	var d amount
	for i := range m {
		t := uint64(u[i+1])<<wordBits | uint64(u[i])
		d[i] = uint32(t >> shift)
	}
	return d
}

// guessWord guesses how often v goes into u, which has one word more, from the highest words of both.
// It is right or one too great.
func guessWord(u, v []uint32) uint32 {
	m := len(v)
	first, second := uint64(v[m-1]), uint64(v[m-2])
	high := uint64(u[m])<<wordBits | uint64(u[m-1])
	guess, rest := high/first, high%first
	for guess>>wordBits > 0 || guess*second > rest<<wordBits|uint64(u[m-2]) {
		guess--
		rest += first
		if rest>>wordBits > 0 {
			break
		}
	}
	return uint32(guess)
}

// takeTimes takes guess times v from u, in place, and tells whether that was too much.
func takeTimes(u, v []uint32, guess uint32) bool {
	var carry uint64
	var borrow uint32
	for i, w := range v {
		t := uint64(guess)*uint64(w) + carry
		u[i], borrow = bits.Sub32(u[i], uint32(t), borrow)
		carry = t >> wordBits
	}
	m := len(v)
	u[m], borrow = bits.Sub32(u[m], uint32(carry), borrow)
	return borrow > 0
}

// giveBack adds v to u, in place; the bit that it carries out pays what takeTimes took too much.
func giveBack(u, v []uint32) {
	var carry uint32
	for i, w := range v {
		u[i], carry = bits.Add32(u[i], w, carry)
	}
	u[len(v)] += carry
}

// common tells the greatest common divisor: Euclid's way, with plain words as soon as they do.
func common(d, e amount) amount {
	for length(e) > 2 {
		_, rest := divide(d, e)
		d, e = e, rest
	}
	if length(e) == 0 {
		return d
	}
	_, rest := divide(d, e)
	return fromUint(commonUint(lowUint(e), lowUint(rest)))
}

func commonUint(a, b uint64) uint64 {
	for b > 0 {
		a, b = b, a%b
	}
	return a
}
