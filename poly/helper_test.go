package poly

import (
	"fmt"
	"math/big"
	"slices"
	"strings"
	"testing"

	"parquet/api"
	"parquet/point"
	"parquet/ratio"
	"parquet/wide"
)

// show tells all that d has, so that no two look alike.
func show(d api.Drawing) string {
	s := fmt.Sprint(d.V, d.S)
	for _, h := range d.H {
		s += " " + rawText(h.X) + "," + rawText(h.Y)
	}
	return s
}

// rawText tells a's two numbers, whatever they are.
func rawText(a api.Rat) string {
	return fmt.Sprint(a.N.Neg, wide.Text(a.N), "by", a.D.Neg, wide.Text(a.D))
}

// rat tells the fraction that math/big reads of s.
func rat(t testing.TB, s string) api.Rat {
	t.Helper()
	x, ok := new(big.Rat).SetString(s)
	if !ok {
		t.Fatalf("%q isn't a fraction", s)
	}
	return fromBig(t, x)
}

func fromBig(t testing.TB, x *big.Rat) api.Rat {
	t.Helper()
	n, in := wide.Parse(x.Num().String())
	d, is := wide.Parse(x.Denom().String())
	if !in || !is {
		t.Fatalf("%s has no room", x)
	}
	return api.Rat{N: n, D: d}
}

// raw writes n by d as it stands, in lowest terms or not.
func raw(n, d int64) api.Rat { return api.Rat{N: wide.From(n), D: wide.From(d)} }

// pt tells the point of two fractions.
func pt(t testing.TB, x, y string) api.Point {
	t.Helper()
	return api.Point{X: rat(t, x), Y: rat(t, y)}
}

func at(x, y int) api.Point { return point.At(x, y) }

// none are fractions that aren't any.
func none() []api.Rat {
	one, noZero := wide.From(1), api.Wide{Neg: true}
	return []api.Rat{
		{}, raw(1, 0), raw(-1, 0), raw(0, 2), raw(2, 4), raw(-2, 4), raw(6, 3), raw(5, 5), raw(1, -2), raw(3, -1),
		{N: noZero, D: one}, {N: noZero}, {N: one, D: noZero},
	}
}

// square is a drawing with some of each.
func square(t testing.TB) api.Drawing {
	t.Helper()
	return api.Drawing{
		V: []api.Vert{{X: 0, Y: 0, Mark: 3}, {X: 8, Y: -1}, {X: 8, Y: 8, Mark: -7}, {X: 1, Y: 8}},
		S: []api.Seg{{A: 0, B: 1, Mark: 5}, {A: 1, B: 2}, {A: 2, B: 3, Mark: -6}, {A: 3, B: 0, Mark: 999999999}},
		H: []api.Point{pt(t, "1/2", "-7/3"), at(4, 0), pt(t, "5", "22/7")},
	}
}

// copied tells d in other memory, with spare room behind.
func copied(d api.Drawing) api.Drawing {
	return api.Drawing{
		V: append(make([]api.Vert, 0, len(d.V)+3), d.V...),
		S: append(make([]api.Seg, 0, len(d.S)+3), d.S...),
		H: append(make([]api.Point, 0, len(d.H)+3), d.H...),
	}
}

// parsed asks that s is read.
func parsed(t testing.TB, s string) api.Drawing {
	t.Helper()
	d, line := Parse(s)
	if line != 0 {
		t.Fatalf("P7.1: line %d is wrong of %.400q", line, s)
	}
	return d
}

// refused asks that s is wrong in that line.
func refused(t testing.TB, s string, want int) {
	t.Helper()
	if d, line := Parse(s); line != want || len(d.V)+len(d.S)+len(d.H) != 0 {
		t.Errorf("P7.1: line %d, not %d, is wrong of %.400q: %s", line, want, s, show(d))
	}
}

// rows parts a text in its lines, without what ends them.
func rows(s string) []string { return strings.Split(strings.TrimSuffix(s, "\n"), "\n") }

// replaced puts a row in the place of line number.
func replaced(l []string, number int, row string) string {
	l = slices.Clone(l)
	l[number-1] = row
	return strings.Join(l, "\n") + "\n"
}

// source gives the same numbers in each run.
type source uint64

func (s *source) next() uint64 {
	*s ^= *s << 13
	*s ^= *s >> 7
	*s ^= *s << 17
	return uint64(*s)
}

// below gives a number from 0 to n less 1.
func (s *source) below(n int) int { return int(s.next() >> 8 % uint64(n)) }

// one gives one of l.
func one[T any](s *source, l ...T) T { return l[s.below(len(l))] }

// number gives one of all lengths that a text may tell.
func (s *source) number() int {
	return (s.below(2000000000-1) - 999999999) / one(s, 1, 1, 1000, 100000000)
}

func (s *source) fraction() api.Rat {
	a, _ := ratio.Of(int64(s.next()>>s.below(64)>>1)*one(s, int64(1), -1), int64(s.next()>>s.below(64)>>1)|1)
	return a
}

// drawing gives one that a text may tell.
func (s *source) drawing() api.Drawing {
	var d api.Drawing
	for range s.below(6) {
		d.V = append(d.V, api.Vert{X: s.number(), Y: s.number(), Mark: s.number()})
	}
	for range s.below(6) {
		if len(d.V) > 0 {
			d.S = append(d.S, api.Seg{A: s.below(len(d.V)), B: s.below(len(d.V)), Mark: s.number()})
		}
	}
	for range s.below(4) {
		d.H = append(d.H, api.Point{X: s.fraction(), Y: s.fraction()})
	}
	return d
}
