package point

import (
	"math/big"
	"testing"

	"parquet/api"
)

// number tells what a stands for, read word by word.
func number(a api.Wide) *big.Int {
	x := new(big.Int)
	for i := api.Words - 1; i >= 0; i-- {
		x.Lsh(x, 32)
		x.Or(x, big.NewInt(int64(a.D[i])))
	}
	if a.Neg {
		x.Neg(x)
	}
	return x
}

// words writes x word by word; x fits.
func words(x *big.Int) api.Wide {
	a := api.Wide{Neg: x.Sign() < 0}
	rest, low := new(big.Int).Abs(x), big.NewInt(1<<32-1)
	for i := range api.Words {
		a.D[i] = uint32(new(big.Int).And(rest, low).Uint64())
		rest.Rsh(rest, 32)
	}
	return a
}

// toBig tells what a stands for; it isn't by 0.
func toBig(a api.Rat) *big.Rat { return new(big.Rat).SetFrac(number(a.N), number(a.D)) }

// fromBig writes x, which math/big keeps in lowest terms.
func fromBig(x *big.Rat) api.Rat { return api.Rat{N: words(x.Num()), D: words(x.Denom())} }

// raw writes n by d as it stands, in lowest terms or not.
func raw(n, d int64) api.Rat { return api.Rat{N: words(big.NewInt(n)), D: words(big.NewInt(d))} }

// rat tells the fraction that math/big reads of s.
func rat(t *testing.T, s string) api.Rat {
	t.Helper()
	x, ok := new(big.Rat).SetString(s)
	if !ok {
		t.Fatalf("%q isn't a fraction", s)
	}
	return fromBig(x)
}

// pt tells the point of two fractions.
func pt(t *testing.T, x, y string) api.Point {
	t.Helper()
	return api.Point{X: rat(t, x), Y: rat(t, y)}
}

// show tells a's two numbers, whatever they are.
func show(a api.Rat) string { return number(a.N).String() + " by " + number(a.D).String() }

// place tells p's numbers, whatever they are.
func place(p api.Point) string { return "(" + show(p.X) + ", " + show(p.Y) + ")" }

// power is 2 to the power of n (0 to 1023).
func power(n int) api.Wide {
	var a api.Wide
	a.D[n/32] = 1 << (n % 32)
	return a
}

// most is the greatest number of so many bits.
func most(bits int) api.Wide {
	x := new(big.Int).Lsh(big.NewInt(1), uint(bits))
	return words(x.Sub(x, big.NewInt(1)))
}

func one() api.Wide { return power(0) }

// noZero is a 0 with Neg: written as none should be, and yet handed in.
func noZero() api.Wide { return api.Wide{Neg: true} }

// wrong are written as no fraction is.
func wrong() []api.Rat {
	return []api.Rat{
		{}, raw(1, 0), raw(-1, 0),
		raw(0, 2), raw(0, -1), raw(2, 4), raw(-2, 4), raw(6, 3), raw(5, 5), raw(3, 9),
		raw(1, -2), raw(-1, -2), raw(3, -1),
		{N: noZero(), D: one()}, {N: noZero(), D: power(1)}, {N: one(), D: noZero()}, {N: noZero(), D: noZero()}, {N: noZero()},
		{N: power(59), D: power(59)}, {N: most(30), D: most(60)}, {N: power(59), D: power(1)},
	}
}

// atLimit have a number of just 60 bits: above, below, on both sides of the line.
func atLimit() []api.Rat {
	return both([]api.Rat{
		{N: power(59), D: one()}, {N: most(60), D: one()}, {N: one(), D: power(59)}, {N: one(), D: most(60)},
		{N: most(60), D: power(59)}, {N: power(59), D: most(60)}, {N: most(59), D: most(60)},
	})
}

// pastLimit have one bit more, or many.
func pastLimit() []api.Rat {
	return both([]api.Rat{
		{N: power(60), D: one()}, {N: most(61), D: one()}, {N: one(), D: power(60)}, {N: one(), D: most(61)},
		{N: most(61), D: power(59)}, {N: power(59), D: most(61)}, {N: most(60), D: most(61)},
		{N: power(499), D: one()}, {N: power(500), D: one()}, {N: one(), D: power(500)}, {N: most(1024), D: power(1023)},
	})
}

// both adds the same below 0.
func both(l []api.Rat) []api.Rat {
	out := []api.Rat{}
	for _, a := range l {
		b := a
		b.N.Neg = true
		out = append(out, a, b)
	}
	return out
}

// bad are points with which nothing is reckoned: wrong in X, in Y, in both.
func bad() []api.Point {
	good, out := raw(3, 2), []api.Point{}
	for _, a := range append(wrong(), pastLimit()...) {
		out = append(out, api.Point{X: a, Y: good}, api.Point{X: good, Y: a}, api.Point{X: a, Y: a})
	}
	return out
}

// source gives the same numbers in each run.
type source uint64

func (s *source) next() uint64 {
	*s ^= *s << 13
	*s ^= *s >> 7
	*s ^= *s << 17
	return uint64(*s)
}

// fraction gives one with numbers of at most so many bits, of all lengths.
func (s *source) fraction(bits uint64) api.Rat {
	n := int64(s.next() >> (64 - s.next()%(bits+1)))
	d := int64(s.next() >> (64 - s.next()%(bits+1)))
	if s.next()%2 == 0 {
		n = -n
	}
	return fromBig(big.NewRat(n, max(d, 1)))
}

// point gives one that Is: with short numbers as often as with long ones, and at times one of the limit's.
func (s *source) point() api.Point {
	bits, l := uint64(4), atLimit()
	if s.next()%2 == 0 {
		bits = api.Small
	}
	p := api.Point{X: s.fraction(bits), Y: s.fraction(bits)}
	if s.next()%8 == 0 {
		p.X = l[s.next()%uint64(len(l))]
	}
	if s.next()%8 == 0 {
		p.Y = l[s.next()%uint64(len(l))]
	}
	return p
}

// grid are points close together, of which many are alike or in one line.
func grid() []api.Point {
	l := []api.Point{}
	for x := int64(-2); x <= 2; x++ {
		for y := int64(-1); y <= 1; y++ {
			l = append(l, api.Point{X: fromBig(big.NewRat(x, 2)), Y: fromBig(big.NewRat(y, 3))})
		}
	}
	return l
}

// threes hands over all threes of grid, and many of a source.
func threes(each func(a, b, c api.Point)) {
	for _, a := range grid() {
		for _, b := range grid() {
			for _, c := range grid() {
				each(a, b, c)
			}
		}
	}
	s := source(88172645463325252)
	for range 1000 {
		a, b, c := s.point(), s.point(), s.point()
		each(a, b, c)
		each(a, b, a)
		each(a, b, b)
	}
}

// fromTo tells the vector's numbers by math/big.
func fromTo(a, b api.Point) (x, y *big.Rat) {
	return new(big.Rat).Sub(toBig(b.X), toBig(a.X)), new(big.Rat).Sub(toBig(b.Y), toBig(a.Y))
}

func bigCross(a, b, c api.Point) *big.Rat {
	vx, vy := fromTo(a, b)
	wx, wy := fromTo(a, c)
	return new(big.Rat).Sub(new(big.Rat).Mul(vx, wy), new(big.Rat).Mul(vy, wx))
}

func bigDot(a, b, c api.Point) *big.Rat {
	vx, vy := fromTo(a, b)
	wx, wy := fromTo(a, c)
	return new(big.Rat).Add(new(big.Rat).Mul(vx, wx), new(big.Rat).Mul(vy, wy))
}

// bigMid tells the middle of some; there is one at least.
func bigMid(l []api.Point) api.Point {
	x, y := new(big.Rat), new(big.Rat)
	for _, p := range l {
		x.Add(x, toBig(p.X))
		y.Add(y, toBig(p.Y))
	}
	n := big.NewRat(1, int64(len(l)))
	return api.Point{X: fromBig(x.Mul(x, n)), Y: fromBig(y.Mul(y, n))}
}
