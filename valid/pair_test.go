package valid

import (
	"slices"
	"testing"

	"parquet/api"
)

// spoiler does one wrong thing to four's drawing; those of unlike errors don't get into one another's way.
type spoiler struct {
	name string
	err  api.Errno
	does func(d *api.Drawing)
}

// forms are the wrong numbers, and too many of something.
func forms() []spoiler {
	form := func(name string, does func(d *api.Drawing)) spoiler { return spoiler{name, api.ErrForm, does} }
	return []spoiler{
		form("a vertex's mark below 0", func(d *api.Drawing) { d.V[1].Mark = -1 }),
		form("a vertex's mark too great", func(d *api.Drawing) { d.V[15].Mark = 1000001 }),
		form("a segment's mark below 0", func(d *api.Drawing) { d.S[0].Mark = -1 }),
		form("a segment's mark too great", func(d *api.Drawing) { d.S[10].Mark = 1000001 }),
		form("no point", func(d *api.Drawing) { d.H = append(d.H, api.Point{}) }),
		form("no point ahead", func(d *api.Drawing) { d.H[0] = api.Point{X: rat(1, 2)} }),
		form("an end that is none", func(d *api.Drawing) { d.S[2].A = -1 }),
		form("an end past the last", func(d *api.Drawing) { d.S[2].B = len(d.V) }),
		form("ends that are one", func(d *api.Drawing) { d.S[2].B = d.S[2].A }),
		form("too many holes", func(d *api.Drawing) { d.H = slices.Repeat(d.H[1:2], 5) }),
		form("too many segments", func(d *api.Drawing) { d.S = append(d.S, slices.Repeat(d.S[:1], 6)...) }),
		form("too many vertices", func(d *api.Drawing) { d.V = append(d.V, api.Vert{X: 31, Y: 32}, api.Vert{X: 32, Y: 31}) }),
		form("no vertices at all", func(d *api.Drawing) { d.V = nil }),
		form("few vertices and no point", func(d *api.Drawing) { d.V, d.H = d.V[:3], []api.Point{{}} }),
	}
}

// move puts vertex i at x, y.
func move(i, x, y int) func(d *api.Drawing) {
	return func(d *api.Drawing) { d.V[i].X, d.V[i].Y = x, y }
}

// hole puts one at p, in the stead of the second one.
func hole(p api.Point) func(d *api.Drawing) {
	return func(d *api.Drawing) { d.H[1] = p }
}

// loops drop a segment of the last square.
func loops() []spoiler {
	return []spoiler{
		{"a segment lacks", api.ErrLoop, func(d *api.Drawing) { d.S = slices.Delete(d.S, 13, 14) }},
		{"another segment lacks", api.ErrLoop, func(d *api.Drawing) { d.S = slices.Delete(d.S, 15, 16) }},
		{"a segment goes elsewhere", api.ErrLoop, func(d *api.Drawing) { d.S[12].A = 0 }},
	}
}

// spoilers have those that must be done last, as they change how many there are, at the end.
func spoilers() []spoiler {
	l := []spoiler{
		{"a vertex left of all", api.ErrBound, move(0, -1, 0)},
		{"a vertex below all", api.ErrBound, move(0, 0, -1)},
		{"a vertex right of all", api.ErrBound, move(10, 65, 64)},
		{"a vertex above all", api.ErrBound, move(14, 20, 65)},
		{"a twin", api.ErrTwin, move(11, 20, 20)},
		{"a neighbour's twin", api.ErrTwin, move(9, 44, 44)},
		{"a cross", api.ErrCross, func(d *api.Drawing) { move(5, 64, 20)(d); move(6, 64, 0)(d) }},
		{"a touch", api.ErrCross, move(7, 54, 0)},
		{"a way back", api.ErrCross, move(6, 54, 0)},
		{"a hole at the rim", api.ErrHole, hole(pt(0, 1, 5, 1))},
		{"a hole past the rim", api.ErrHole, hole(pt(5, 1, 100, 1))},
		{"a hole on a segment", api.ErrHole, hole(pt(20, 1, 31, 3))},
		{"a hole in a vertex", api.ErrHole, hole(pt(20, 1, 0, 1))},
		{"a hole within a segment", api.ErrHole, hole(pt(31, 3, 20, 1))},
	}
	l = append(l, loops()...)
	return append(l, forms()...)
}

// spoilt tells four's drawing with all these done to it.
func spoilt(l ...spoiler) api.Drawing {
	return changed(four(), func(d *api.Drawing) {
		for _, s := range l {
			s.does(d)
		}
	})
}

func TestAlone(t *testing.T) {
	checked(t, "nothing wrong", four(), api.OK)
	seen := map[api.Errno]int{}
	for _, s := range spoilers() {
		checked(t, s.name, spoilt(s), s.err)
		seen[s.err]++
	}
	for _, e := range []api.Errno{api.ErrForm, api.ErrBound, api.ErrTwin, api.ErrLoop, api.ErrCross, api.ErrHole} {
		if seen[e] == 0 {
			t.Errorf("P9.1: %v isn't tried", e)
		}
	}
}

// TestPairs: of two errors that one is told which the document names first.
func TestPairs(t *testing.T) {
	l := spoilers()
	for i, a := range l {
		for _, b := range l[i+1:] {
			if a.err != b.err {
				checked(t, a.name+" and "+b.name, spoilt(a, b), min(a.err, b.err))
			}
		}
	}
}

// TestSome: of any of the six kinds, too, the first is told.
func TestSome(t *testing.T) {
	l, s := spoilers(), source(88172645463325252)
	for range 3000 {
		kinds := map[api.Errno]spoiler{}
		for range 1 + s.below(5) {
			a := l[s.below(len(l))]
			kinds[a.err] = a
		}
		var some []spoiler
		want, name := api.ErrHole, ""
		for _, e := range []api.Errno{api.ErrBound, api.ErrTwin, api.ErrCross, api.ErrHole, api.ErrLoop, api.ErrForm} {
			if a, ok := kinds[e]; ok {
				some, want, name = append(some, a), min(want, e), name+", "+a.name
			}
		}
		checked(t, name[2:], spoilt(some...), want)
	}
}
