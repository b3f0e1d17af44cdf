package valid

import (
	"fmt"
	"slices"
	"testing"

	"parquet/api"
	"parquet/ratio"
)

// drawn tells a drawing of loops: each a row of x and y by turns.
func drawn(loops ...[]int) api.Drawing {
	var d api.Drawing
	for _, row := range loops {
		first := len(d.V)
		for i := 0; i < len(row); i += 2 {
			d.S = append(d.S, api.Seg{A: len(d.V), B: len(d.V) + 1, Mark: len(d.S)})
			d.V = append(d.V, api.Vert{X: row[i], Y: row[i+1], Mark: len(d.V)})
		}
		d.S[len(d.S)-1].B = first
	}
	return d
}

// square tells a row for drawn.
func square(x, y, side int) []int {
	return []int{x, y, x + side, y, x + side, y + side, x, y + side}
}

// four has room for errors in each corner of the greatest square, and holes' points within two of its loops.
func four() api.Drawing {
	d := drawn(square(0, 0, 20), square(44, 0, 20), square(44, 44, 20), square(0, 44, 20))
	d.H = []api.Point{pt(5, 1, 5, 1), pt(101, 2, 31, 3)}
	return d
}

// rat tells n by d.
func rat(n, d int64) api.Rat {
	a, ok := ratio.Of(n, d)
	if !ok {
		panic("no fraction")
	}
	return a
}

// pt tells the point at a by b, c by d.
func pt(a, b, c, d int64) api.Point { return api.Point{X: rat(a, b), Y: rat(c, d)} }

// with tells d with more holes' points.
func with(d api.Drawing, l ...api.Point) api.Drawing {
	d.H = slices.Concat(d.H, l)
	return d
}

// changed tells a copy of d after that is done to it.
func changed(d api.Drawing, does func(d *api.Drawing)) api.Drawing {
	c := copied(d)
	does(&c)
	return c
}

// copied tells d in other memory, with spare room behind each list that has something in it.
func copied(d api.Drawing) api.Drawing {
	return api.Drawing{
		V: spared(d.V, api.Vert{X: -9, Y: -9, Mark: -9}),
		S: spared(d.S, api.Seg{A: -9, B: -9, Mark: -9}),
		H: spared(d.H, api.Point{}),
	}
}

func spared[T any](l []T, behind T) []T {
	return append(slices.Clone(l), behind, behind, behind)[:len(l)]
}

// seen tells all that d holds, what lies in spare room too.
func seen(d api.Drawing) string {
	return fmt.Sprint(len(d.V), d.V[:cap(d.V)], len(d.S), d.S[:cap(d.S)], len(d.H), d.H[:cap(d.H)])
}

// show tells d's numbers in short.
func show(d api.Drawing) string {
	s := fmt.Sprintf("V %v S %v H", d.V, d.S)
	for _, p := range d.H {
		s += " (" + ratio.Text(p.X) + ", " + ratio.Text(p.Y) + ")"
	}
	return s
}

// checked asks that Check tells this, and leaves d as it was.
func checked(t testing.TB, name string, d api.Drawing, want api.Errno) {
	t.Helper()
	c := copied(d)
	was := seen(c)
	if got := Check(c); got != want {
		t.Errorf("P9.1: %s: %v, not %v: %.2000s", name, got, want, show(d))
	}
	if seen(c) != was {
		t.Errorf("P9.1: %s: Check changed what it was handed", name)
	}
}

// source gives the same numbers in each run.
type source uint64

func (s *source) next() uint64 {
	*s ^= *s << 13
	*s ^= *s >> 7
	*s ^= *s << 17
	return uint64(*s)
}

// below gives a number from 0 to n less 1.
func (s *source) below(n int) int { return int(s.next() >> 8 % uint64(n)) }

// order gives the numbers from 0 to n less 1 in any order.
func (s *source) order(n int) []int {
	l := make([]int, n)
	for i := range l {
		j := s.below(i + 1)
		l[i], l[j] = l[j], i
	}
	return l
}
