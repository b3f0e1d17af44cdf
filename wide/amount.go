package wide

import (
	"math/bits"

	"parquet/api"
)

// amount is a number without its sign: its words, the lowest first.
type amount = [api.Words]uint32

// wordBits: how many bits a word has.
const wordBits = 32

// length tells how many words are in use: all above are 0.
func length(d amount) int {
	n := api.Words
	for n > 0 && d[n-1] == 0 {
		n--
	}
	return n
}

// bitLength tells how many bits are in use.
func bitLength(d amount) int {
	n := length(d)
	if n == 0 {
		return 0
	}
	return wordBits*(n-1) + bits.Len32(d[n-1])
}

func fromUint(u uint64) amount {
	return amount{uint32(u), uint32(u >> wordBits)}
}

// lowUint tells the two lowest words as one number.
func lowUint(d amount) uint64 {
	return uint64(d[1])<<wordBits | uint64(d[0])
}

func compare(d, e amount) int {
	for i := api.Words - 1; i >= 0; i-- {
		if d[i] < e[i] {
			return -1
		}
		if d[i] > e[i] {
			return 1
		}
	}
	return 0
}

// plus tells the sum, or false if a bit is carried out of the highest word.
func plus(d, e amount) (amount, bool) {
	var out amount
	var carry uint32
	for i := range api.Words {
		out[i], carry = bits.Add32(d[i], e[i], carry)
	}
	return out, carry == 0
}

// minus tells d less e; e isn't above d.
func minus(d, e amount) amount {
	var out amount
	var borrow uint32
	for i := range api.Words {
		out[i], borrow = bits.Sub32(d[i], e[i], borrow)
	}
	return out
}

// times tells the product, or false if it has more words than there are.
func times(d, e amount) (amount, bool) {
	var out amount
	n, m := length(d), length(e)
	if n+m > api.Words+1 { // the product of the highest words alone lies above the room; below, every i+j is a place in it
		return amount{}, false
	}
	for i := range n {
		var carry uint64
		for j := range m {
			t := uint64(d[i])*uint64(e[j]) + uint64(out[i+j]) + carry
			out[i+j] = uint32(t)
			carry = t >> wordBits
		}
		if i+m < api.Words {
			out[i+m] = uint32(carry)
		} else if carry > 0 {
			return amount{}, false
		}
	}
	return out, true
}

// timesPlus tells d times m and c, or false if it doesn't fit.
func timesPlus(d amount, m, c uint32) (amount, bool) {
	carry := uint64(c)
	for i := range api.Words {
		t := uint64(d[i])*uint64(m) + carry
		d[i] = uint32(t)
		carry = t >> wordBits
	}
	return d, carry == 0
}

// shiftUp tells d times 2 to the power of n; n is from 0 to api.Bits, and what it shifts out is 0.
func shiftUp(d amount, n int) amount {
	var out amount
	words, rest := n/wordBits, n%wordBits
	for i := words; i < api.Words; i++ {
		t := uint64(d[i-words]) << rest
		if i > words {
			t |= uint64(d[i-words-1]) << rest >> wordBits
		}
		out[i] = uint32(t)
	}
	return out
}
