package loop

import (
	"fmt"
	"slices"
	"testing"

	"parquet/api"
	"parquet/ratio"
	"parquet/valid"
)

// drawn tells a drawing of loops: each a row of x and y by turns.
func drawn(loops ...[]int) api.Drawing {
	var d api.Drawing
	for _, row := range loops {
		first := len(d.V)
		for i := 0; i < len(row); i += 2 {
			d.S = append(d.S, api.Seg{A: len(d.V), B: len(d.V) + 1, Mark: len(d.S)})
			d.V = append(d.V, api.Vert{X: row[i], Y: row[i+1], Mark: len(d.V)})
		}
		d.S[len(d.S)-1].B = first
	}
	return d
}

// square tells a row for drawn, one that turns left.
func square(x, y, side int) []int {
	return []int{x, y, x + side, y, x + side, y + side, x, y + side}
}

// joined tells a drawing of vertices at x and y by turns, with segments between those vertices.
func joined(places []int, ends ...[2]int) api.Drawing {
	var d api.Drawing
	for i := 0; i < len(places); i += 2 {
		d.V = append(d.V, api.Vert{X: places[i], Y: places[i+1]})
	}
	for _, e := range ends {
		d.S = append(d.S, api.Seg{A: e[0], B: e[1]})
	}
	return d
}

// rat tells n by d.
func rat(n, d int64) api.Rat {
	a, ok := ratio.Of(n, d)
	if !ok {
		panic("no fraction")
	}
	return a
}

// pt tells the point at a by b, c by d.
func pt(a, b, c, d int64) api.Point { return api.Point{X: rat(a, b), Y: rat(c, d)} }

// spot tells a point for a message.
func spot(p api.Point) string { return "(" + ratio.Text(p.X) + ", " + ratio.Text(p.Y) + ")" }

// with tells d with more holes' points.
func with(d api.Drawing, l ...api.Point) api.Drawing {
	d.H = slices.Concat(d.H, l)
	return d
}

// changed tells a copy of d after that is done to it.
func changed(d api.Drawing, does func(d *api.Drawing)) api.Drawing {
	c := copied(d)
	does(&c)
	return c
}

// copied tells d in other memory, with spare room behind each list.
func copied(d api.Drawing) api.Drawing {
	return api.Drawing{
		V: spared(d.V, api.Vert{X: -9, Y: -9, Mark: -9}),
		S: spared(d.S, api.Seg{A: -9, B: -9, Mark: -9}),
		H: spared(d.H, api.Point{}),
	}
}

func spared[T any](l []T, behind T) []T {
	return append(slices.Clone(l), behind, behind, behind)[:len(l)]
}

// seen tells all that d holds, what lies in spare room too.
func seen(d api.Drawing) string {
	return fmt.Sprint(len(d.V), d.V[:cap(d.V)], len(d.S), d.S[:cap(d.S)], len(d.H), d.H[:cap(d.H)])
}

// show tells d's numbers in short.
func show(d api.Drawing) string {
	s := fmt.Sprintf("V %v S %v H", d.V, d.S)
	for _, p := range d.H {
		s += " " + spot(p)
	}
	return s
}

// round tells the row from its i-th vertex on.
func round(row []int, i int) []int {
	return slices.Concat(row[i:], row[:i])
}

// turned tells the row the other way round.
func turned(row []int) []int {
	l := slices.Clone(row)
	slices.Reverse(l)
	return l
}

// source gives the same numbers in each run.
type source uint64

func (s *source) next() uint64 {
	*s ^= *s << 13
	*s ^= *s >> 7
	*s ^= *s << 17
	return uint64(*s)
}

// below gives a number from 0 to n less 1.
func (s *source) below(n int) int { return int(s.next() >> 8 % uint64(n)) }

// order gives the numbers from 0 to n less 1 in any order.
func (s *source) order(n int) []int {
	l := make([]int, n)
	for i := range l {
		j := s.below(i + 1)
		l[i], l[j] = l[j], i
	}
	return l
}

// shuffled tells the same drawing, its segments in another order, this way round or the other.
func (s *source) shuffled(d api.Drawing) api.Drawing {
	out := api.Drawing{V: slices.Clone(d.V), H: slices.Clone(d.H)}
	for _, k := range s.order(len(d.S)) {
		g := d.S[k]
		if s.below(2) == 0 {
			g.A, g.B = g.B, g.A
		}
		out.S = append(out.S, g)
	}
	return out
}

// renumbered tells the same drawing with its vertices in another order, and where each of them is now.
func (s *source) renumbered(d api.Drawing) (api.Drawing, []int) {
	place := s.order(len(d.V))
	out := api.Drawing{V: make([]api.Vert, len(d.V)), H: slices.Clone(d.H)}
	for i, v := range d.V {
		out.V[place[i]] = v
	}
	for _, g := range d.S {
		out.S = append(out.S, api.Seg{A: place[g.A], B: place[g.B], Mark: g.Mark})
	}
	return out, place
}

// scattered gives a drawing that may be: one to five loops in bounds of this side, beside and within one another, numbered and joined in any order.
func (s *source) scattered(side int) api.Drawing {
	for {
		var rows [][]int
		low, high := 0, side
		for range s.below(3) {
			if high-low >= 7 {
				rows = append(rows, s.around(low, high))
				low, high = low+2, high-2
			}
		}
		for range 1 + s.below(3) {
			rows = append(rows, s.loop(low, high, 3+s.below(3+s.below(3))))
		}
		d, _ := s.renumbered(s.shuffled(drawn(rows...)))
		if valid.Check(d) == api.OK {
			return d
		}
	}
}

// around gives four vertices close to the corners of these bounds.
func (s *source) around(low, high int) []int {
	a := func() int { return low + s.below(2) }
	b := func() int { return high - s.below(2) }
	return []int{a(), a(), b(), a(), b(), b(), a(), b()}
}

// loop gives so many vertices in some part of these bounds.
func (s *source) loop(low, high, n int) []int {
	side := min(high-low, 2+s.below(high-low))
	x, y := low+s.below(high-low-side+1), low+s.below(high-low-side+1)
	var row []int
	for range n {
		row = append(row, x+s.below(side+1), y+s.below(side+1))
	}
	return row
}

// point gives one in these bounds or a little past them, whole or not.
func (s *source) point(side int) api.Point {
	n := func() api.Rat {
		d := 1 + s.below(4)
		return rat(int64(s.below((side+2)*d+1)-d), int64(d))
	}
	return api.Point{X: n(), Y: n()}
}

// must asks that this is so.
func must(t testing.TB, ok bool, format string, a ...any) {
	t.Helper()
	if !ok {
		t.Errorf(format, a...)
	}
}
