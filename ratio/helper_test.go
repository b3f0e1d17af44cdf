package ratio

import (
	"math/big"
	"testing"

	"parquet/api"
	"parquet/wide"
)

// number tells what a stands for, read word by word.
func number(a api.Wide) *big.Int {
	x := new(big.Int)
	for i := api.Words - 1; i >= 0; i-- {
		x.Lsh(x, 32)
		x.Or(x, big.NewInt(int64(a.D[i])))
	}
	if a.Neg {
		x.Neg(x)
	}
	return x
}

// words writes x word by word; x fits.
func words(x *big.Int) api.Wide {
	a := api.Wide{Neg: x.Sign() < 0}
	rest, low := new(big.Int).Abs(x), big.NewInt(1<<32-1)
	for i := range api.Words {
		a.D[i] = uint32(new(big.Int).And(rest, low).Uint64())
		rest.Rsh(rest, 32)
	}
	return a
}

// toBig tells what a stands for; it isn't by 0.
func toBig(a api.Rat) *big.Rat { return new(big.Rat).SetFrac(number(a.N), number(a.D)) }

// fromBig writes x, which math/big keeps in lowest terms.
func fromBig(x *big.Rat) api.Rat { return api.Rat{N: words(x.Num()), D: words(x.Denom())} }

// read tells the fraction that math/big reads of s.
func read(t *testing.T, s string) api.Rat {
	t.Helper()
	x, ok := new(big.Rat).SetString(s)
	if !ok {
		t.Fatalf("%q isn't a fraction", s)
	}
	return fromBig(x)
}

// show tells a's two numbers, whatever they are.
func show(a api.Rat) string { return number(a.N).String() + " by " + number(a.D).String() }

// power is 2 to the power of n (0 to 1023).
func power(n int) api.Wide {
	var a api.Wide
	a.D[n/32] = 1 << (n % 32)
	return a
}

// most is the greatest number of so many bits.
func most(bits int) api.Wide {
	x := new(big.Int).Lsh(big.NewInt(1), uint(bits))
	return words(x.Sub(x, big.NewInt(1)))
}

// noZero is a 0 with Neg: written as none should be, and yet handed in.
func noZero() api.Wide { return api.Wide{Neg: true} }

// wrong are written as no fraction is.
func wrong() []api.Rat {
	n := wide.From
	return []api.Rat{
		{},
		{N: n(1)}, {N: n(-1)},
		{D: n(2)}, {D: n(-1)}, {D: power(1023)},
		{N: n(2), D: n(4)}, {N: n(-2), D: n(4)}, {N: n(6), D: n(3)}, {N: n(5), D: n(5)},
		{N: n(1), D: n(-2)}, {N: n(-1), D: n(-2)}, {N: n(3), D: n(-1)},
		{N: noZero(), D: n(1)}, {N: noZero(), D: n(3)}, {N: n(1), D: noZero()}, {N: noZero(), D: noZero()}, {D: noZero()}, {N: noZero()},
		{N: power(499), D: power(499)}, {N: power(400), D: power(1)}, {N: most(32), D: most(64)}, {N: words(new(big.Int).Neg(number(most(250)))), D: most(500)},
	}
}

// atLimit are safe, just so: a number of 500 bits above, below, on both sides of the line.
func atLimit() []api.Rat {
	l := []api.Rat{
		{N: power(499), D: wide.From(1)}, {N: power(499), D: wide.From(3)}, {N: most(500), D: power(499)},
		{N: wide.From(1), D: power(499)}, {N: wide.From(7), D: most(500)}, {N: power(499), D: most(500)},
	}
	return append(l, negated(l)...)
}

// pastLimit have one bit more.
func pastLimit() []api.Rat {
	l := []api.Rat{
		{N: power(500), D: wide.From(1)}, {N: power(500), D: wide.From(3)}, {N: most(501), D: power(499)},
		{N: wide.From(1), D: power(500)}, {N: wide.From(2), D: most(501)}, {N: power(500), D: most(501)}, {N: power(1023), D: wide.From(1)},
	}
	return append(l, negated(l)...)
}

func negated(l []api.Rat) []api.Rat {
	out := []api.Rat{}
	for _, a := range l {
		a.N.Neg = !a.N.Neg
		out = append(out, a)
	}
	return out
}

// notSafe are all with which nothing is reckoned.
func notSafe() []api.Rat { return append(wrong(), pastLimit()...) }

// source gives the same numbers in each run.
type source uint64

func (s *source) next() uint64 {
	*s ^= *s << 13
	*s ^= *s >> 7
	*s ^= *s << 17
	return uint64(*s)
}

// whole gives numbers of at most so many bits, of all lengths, with many words that are 0 or full.
func (s *source) whole(bits int) *big.Int {
	x := new(big.Int)
	n := int(s.next() % uint64(bits+1))
	for x.BitLen() < n {
		w := s.next()
		switch s.next() % 4 {
		case 0:
			w = 1<<32 - 1
		case 1:
			w = 1
		}
		x.Lsh(x, 32)
		x.Or(x, new(big.Int).SetUint64(w&(1<<32-1)))
	}
	x.Rsh(x, uint(max(x.BitLen()-n, 0)))
	return x
}

// fraction gives a safe one; every other has factors that many others have too.
func (s *source) fraction() api.Rat {
	bits := api.Safe
	if s.next()%2 == 0 {
		bits = 20
	}
	n, d := s.whole(bits), s.whole(bits)
	if s.next()%4 == 0 {
		d.Mul(d, big.NewInt(5040))
		d.Rsh(d, uint(max(d.BitLen()-bits, 0)))
	}
	if d.Sign() == 0 {
		d.SetInt64(int64(s.next()%12) + 1)
	}
	if s.next()%2 == 0 {
		n.Neg(n)
	}
	return fromBig(new(big.Rat).SetFrac(n, d))
}

// some are small fractions of both signs, and those at the limit.
func some() []api.Rat {
	l := atLimit()
	for n := int64(-4); n <= 4; n++ {
		for _, d := range []int64{1, 2, 3, 4, 6, 9, 10} {
			if x := big.NewRat(n, d); x.Denom().Int64() == d {
				l = append(l, fromBig(x))
			}
		}
	}
	for _, x := range []*big.Rat{big.NewRat(1<<31, 1<<32-1), big.NewRat(1<<62, 3), big.NewRat(-7, 1<<62), big.NewRat(999999937, 1000000007)} {
		l = append(l, fromBig(x))
	}
	return l
}

// pairs hands over all pairs of some, and many of a source.
func pairs(each func(a, b api.Rat)) {
	for _, a := range some() {
		for _, b := range some() {
			each(a, b)
		}
	}
	s := source(88172645463325252)
	for range 4000 {
		a, b := s.fraction(), s.fraction()
		each(a, b)
		each(a, fromBig(new(big.Rat).SetFrac(number(b.N), number(a.D)))) // nearly the same below
	}
}

type call struct {
	name string
	ours func(a, b api.Rat) (api.Rat, bool)
	big  func(a, b *big.Rat) *big.Rat
}

// calls are those that make a fraction of two, each beside what math/big makes.
func calls() []call {
	return []call{
		{"Add", Add, func(a, b *big.Rat) *big.Rat { return new(big.Rat).Add(a, b) }},
		{"Sub", Sub, func(a, b *big.Rat) *big.Rat { return new(big.Rat).Sub(a, b) }},
		{"Mul", Mul, func(a, b *big.Rat) *big.Rat { return new(big.Rat).Mul(a, b) }},
		{"Div", Div, func(a, b *big.Rat) *big.Rat { return new(big.Rat).Quo(a, b) }},
		{"Sum", func(a, b api.Rat) (api.Rat, bool) { return Sum(a, b) }, func(a, b *big.Rat) *big.Rat { return new(big.Rat).Add(a, b) }},
	}
}
