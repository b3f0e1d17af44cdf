package wide

import (
	"math/big"
	"testing"

	"parquet/api"
)

// limit is 2 to the power of 1024: the least amount that is too great.
func limit() *big.Int { return new(big.Int).Lsh(big.NewInt(1), api.Bits) }

// fits tells whether x has 1024 bits at most.
func fits(x *big.Int) bool { return x.CmpAbs(limit()) < 0 }

// toBig tells what a stands for, read word by word.
func toBig(a api.Wide) *big.Int {
	x := new(big.Int)
	for i := api.Words - 1; i >= 0; i-- {
		x.Lsh(x, 32)
		x.Or(x, big.NewInt(int64(a.D[i])))
	}
	if a.Neg {
		x.Neg(x)
	}
	return x
}

// fromBig writes x word by word; x fits.
func fromBig(x *big.Int) api.Wide {
	a := api.Wide{Neg: x.Sign() < 0}
	rest, low := new(big.Int).Abs(x), big.NewInt(1<<32-1)
	for i := range api.Words {
		a.D[i] = uint32(new(big.Int).And(rest, low).Uint64())
		rest.Rsh(rest, 32)
	}
	return a
}

func read(t *testing.T, s string) api.Wide {
	t.Helper()
	x, ok := new(big.Int).SetString(s, 10)
	if !ok {
		t.Fatalf("%q isn't decimal", s)
	}
	return fromBig(x)
}

// greatest is 2 to the power of 1024, less 1.
func greatest() api.Wide {
	var a api.Wide
	for i := range a.D {
		a.D[i] = 1<<32 - 1
	}
	return a
}

// power is 2 to the power of n (0 to 1023).
func power(n int) api.Wide {
	var a api.Wide
	a.D[n/32] = 1 << (n % 32)
	return a
}

// noZero is a 0 with Neg: written as none should be, and yet handed in.
func noZero() api.Wide { return api.Wide{Neg: true} }

// source gives the same numbers in each run.
type source uint64

func (s *source) next() uint64 {
	*s ^= *s << 13
	*s ^= *s >> 7
	*s ^= *s << 17
	return uint64(*s)
}

// number gives numbers of all lengths, with many words that are 0, full, or just about a half: these try carries and guesses.
func (s *source) number() api.Wide {
	var a api.Wide
	n := int(s.next() % (api.Words + 1))
	for i := range n {
		switch s.next() % 8 {
		case 0:
			a.D[i] = 0
		case 1, 2:
			a.D[i] = 1<<32 - 1
		case 3:
			a.D[i] = 1 << 31
		case 4:
			a.D[i] = 1<<31 - 1
		case 5:
			a.D[i] = 1
		default:
			a.D[i] = uint32(s.next())
		}
	}
	a.Neg = s.next()%2 == 0 && a.D != [api.Words]uint32{}
	return a
}

// edges are the numbers at which something changes, and some of each size.
func edges() []api.Wide {
	l := []api.Wide{{}, noZero(), greatest(), power(0), power(31), power(32), power(63), power(64), power(511), power(512), power(1022), power(1023)}
	for _, n := range []int64{2, 3, 4, 7, 9, 10, 1<<31 - 1, 1<<32 - 1, 1<<32 + 1, 999999999, 1000000000, 1<<63 - 1} {
		l = append(l, fromBig(big.NewInt(n)))
	}
	for i := range len(l) {
		if l[i].D != [api.Words]uint32{} {
			a := l[i]
			a.Neg = true
			l = append(l, a)
		}
	}
	return l
}

// pairs hands over all pairs of edges, and many of a source.
func pairs(each func(a, b api.Wide)) {
	for _, a := range edges() {
		for _, b := range edges() {
			each(a, b)
		}
	}
	s := source(88172645463325252)
	for range 20000 {
		each(s.number(), s.number())
	}
}

// holds tells whether got, ok is what a call that ought to tell want answers.
func holds(got api.Wide, ok bool, want *big.Int) bool {
	if !fits(want) {
		return !ok && got == api.Wide{}
	}
	return ok && got == fromBig(want)
}
