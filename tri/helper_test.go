package tri

import (
	"math/big"
	"testing"

	"parquet/api"
	"parquet/point"
	"parquet/ratio"
	"parquet/wide"
)

// far is the greatest number of 60 bits, nearly the one below it.
const (
	far    = "1152921504606846975"
	nearly = "1152921504606846974"
)

// toBig tells what a stands for.
func toBig(a api.Rat) *big.Rat {
	x, _ := new(big.Rat).SetString(ratio.Text(a))
	return x
}

// fromBig writes x, which fits.
func fromBig(x *big.Rat) api.Rat {
	a, _ := ratio.Parse(x.RatString())
	return a
}

// rat tells the fraction that math/big reads of s.
func rat(t *testing.T, s string) api.Rat {
	t.Helper()
	x, ok := new(big.Rat).SetString(s)
	if !ok {
		t.Fatalf("%q isn't a fraction", s)
	}
	return fromBig(x)
}

// pt tells the point of two fractions.
func pt(t *testing.T, x, y string) api.Point {
	t.Helper()
	return api.Point{X: rat(t, x), Y: rat(t, y)}
}

func at(x, y int) api.Point { return point.At(x, y) }

// raw writes n by d as it stands, in lowest terms or not.
func raw(n, d int64) api.Rat { return api.Rat{N: wide.From(n), D: wide.From(d)} }

// show tells a's two numbers, whatever they are.
func show(a api.Rat) string { return wide.Text(a.N) + " by " + wide.Text(a.D) }

// where tells the numbers of all, whatever they are.
func where(l ...api.Point) string {
	s := ""
	for _, p := range l {
		s += "(" + show(p.X) + ", " + show(p.Y) + ")"
	}
	return s
}

// rounds tells the same three, each once the first.
func rounds(a, b, c api.Point) [3][3]api.Point {
	return [3][3]api.Point{{a, b, c}, {b, c, a}, {c, a, b}}
}

// turned changes X and Y: what turns left turns right.
func turned(p api.Point) api.Point { return api.Point{X: p.Y, Y: p.X} }

func power(n int) api.Wide {
	a, _ := wide.Shl(wide.From(1), n)
	return a
}

// most is the greatest number of so many bits.
func most(bits int) api.Wide {
	a, _ := wide.Parse(new(big.Int).Sub(new(big.Int).Lsh(big.NewInt(1), uint(bits)), big.NewInt(1)).String())
	return a
}

// both adds the same below 0.
func both(l ...api.Rat) []api.Rat {
	out := []api.Rat{}
	for _, a := range l {
		out = append(out, a, api.Rat{N: wide.Neg(a.N), D: a.D})
	}
	return out
}

// atLimit have a number of just 60 bits.
func atLimit() []api.Rat {
	one := power(0)
	return both(api.Rat{N: power(59), D: one}, api.Rat{N: most(60), D: one}, api.Rat{N: one, D: power(59)}, api.Rat{N: one, D: most(60)},
		api.Rat{N: most(60), D: power(59)}, api.Rat{N: power(59), D: most(60)}, api.Rat{N: most(59), D: most(60)})
}

// pastLimit have one of a bit more, or of many.
func pastLimit() []api.Rat {
	one := power(0)
	return both(api.Rat{N: power(60), D: one}, api.Rat{N: most(61), D: one}, api.Rat{N: one, D: power(60)}, api.Rat{N: one, D: most(61)},
		api.Rat{N: most(61), D: power(59)}, api.Rat{N: power(59), D: most(61)}, api.Rat{N: most(60), D: most(61)},
		api.Rat{N: power(499), D: one}, api.Rat{N: power(500), D: one}, api.Rat{N: one, D: power(500)}, api.Rat{N: most(1024), D: power(1023)})
}

// wrong are written as no fraction is.
func wrong() []api.Rat {
	one, noZero := power(0), api.Wide{Neg: true}
	return []api.Rat{
		{}, raw(1, 0), raw(-1, 0), raw(0, 2), raw(0, -1), raw(2, 4), raw(-2, 4), raw(6, 3), raw(5, 5), raw(1, -2), raw(-1, -2), raw(3, -1),
		{N: noZero, D: one}, {N: noZero, D: power(1)}, {N: one, D: noZero}, {N: noZero, D: noZero}, {N: noZero},
		{N: power(59), D: power(59)}, {N: most(30), D: most(60)}, {N: power(59), D: power(1)},
	}
}

// bad are points that aren't any: by X, by Y, by both.
func bad() []api.Point {
	good, out := raw(1, 2), []api.Point{{}}
	for _, a := range append(wrong(), pastLimit()...) {
		out = append(out, api.Point{X: a, Y: good}, api.Point{X: good, Y: a}, api.Point{X: a, Y: a})
	}
	return out
}

// primes gives fractions with numbers of just 60 bits, those below the line without a common divisor, so that nothing of what is reckoned gets shorter.
func primes(count int) []api.Rat {
	l := []api.Rat{}
	d := new(big.Int).Lsh(big.NewInt(1), api.Small)
	for len(l) < count {
		d.Sub(d, big.NewInt(1))
		if !d.ProbablyPrime(20) {
			continue
		}
		n := new(big.Int).Sub(d, big.NewInt(int64(len(l)+1)))
		if len(l)%2 == 1 {
			n.Neg(n)
		}
		l = append(l, fromBig(new(big.Rat).SetFrac(n, d)))
	}
	return l
}

// source gives the same numbers in each run.
type source uint64

func (s *source) next() uint64 {
	*s ^= *s << 13
	*s ^= *s >> 7
	*s ^= *s << 17
	return uint64(*s)
}

// fraction gives one with numbers of at most so many bits, of all lengths.
func (s *source) fraction(bits uint64) api.Rat {
	n := int64(s.next() >> (64 - s.next()%(bits+1)))
	d := int64(s.next() >> (64 - s.next()%(bits+1)))
	if s.next()%2 == 0 {
		n = -n
	}
	return fromBig(big.NewRat(n, max(d, 1)))
}

// point gives one with numbers of at most so many bits.
func (s *source) point(bits uint64) api.Point {
	return api.Point{X: s.fraction(bits), Y: s.fraction(bits)}
}

// grid are points close together, of which many are in one line, and many make 45 degrees.
func grid() []api.Point {
	l := []api.Point{}
	for x := int64(-1); x <= 2; x++ {
		for y := int64(-1); y <= 1; y++ {
			l = append(l, api.Point{X: fromBig(big.NewRat(x, 3)), Y: fromBig(big.NewRat(y, 3))})
		}
	}
	return l
}

// threes hands over all threes of grid, and many of a source.
func threes(each func(a, b, c api.Point)) {
	for _, a := range grid() {
		for _, b := range grid() {
			for _, c := range grid() {
				each(a, b, c)
			}
		}
	}
	s := source(88172645463325252)
	for range 250 {
		each(s.point(6), s.point(6), s.point(6))
		a, b, c := s.point(60), s.point(60), s.point(60)
		each(a, b, c)
		each(a, b, a)
		each(a, b, b)
	}
}
