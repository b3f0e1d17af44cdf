package valid

import (
	"math"
	"slices"
	"testing"

	"parquet/api"
	"parquet/point"
	"parquet/wide"
)

// around16 are 16 vertices in a loop without three in a line.
func around16() []int {
	return []int{24, 0, 40, 0, 52, 4, 60, 12, 64, 24, 64, 40, 60, 52, 52, 60, 40, 64, 24, 64, 12, 60, 4, 52, 0, 40, 0, 24, 4, 12, 12, 4}
}

func TestNoVertices(t *testing.T) {
	full := four()
	for i, d := range []api.Drawing{{}, {V: []api.Vert{}, S: []api.Seg{}, H: []api.Point{}}, {V: full.V[:0]}, {S: full.S}, {H: full.H}, {S: full.S, H: full.H}, {S: []api.Seg{{}}}, {S: []api.Seg{{A: 0, B: -1}}}} {
		checked(t, "no vertices "+string(rune('0'+i)), d, api.ErrForm)
	}
}

// TestCounts: as many of each as may be, and one more.
func TestCounts(t *testing.T) {
	d := drawn(around16())
	d.H = []api.Point{pt(1, 1, 1, 1), pt(32, 1, 32, 1), pt(32, 1, 32, 1), pt(100, 3, 1, 2)}
	if len(d.V) != api.MaxVerts || len(d.S) != api.MaxSegs || len(d.H) != api.MaxHoles {
		t.Fatal("not as many as may be")
	}
	checked(t, "as many as may be", d, api.OK)
	for _, n := range []int{1, 2, 16, 1000} {
		v := slices.Repeat([]api.Vert{{X: 32, Y: 30}}, n)
		s := slices.Repeat([]api.Seg{{A: 0, B: 1}}, n)
		h := slices.Repeat([]api.Point{pt(32, 1, 33, 1)}, n)
		checked(t, "vertices", api.Drawing{V: append(v, d.V...), S: d.S, H: d.H}, api.ErrForm)
		checked(t, "segments", api.Drawing{V: d.V, S: append(s, d.S...), H: d.H}, api.ErrForm)
		checked(t, "holes", api.Drawing{V: d.V, S: d.S, H: append(h, d.H...)}, api.ErrForm)
	}
	checked(t, "one vertex more", api.Drawing{V: append(slices.Clone(d.V), api.Vert{X: 32, Y: 32}), S: d.S}, api.ErrForm)
	checked(t, "one vertex more, alone", api.Drawing{V: make([]api.Vert, 17)}, api.ErrForm)
	checked(t, "as many vertices as may be, alone", api.Drawing{V: make([]api.Vert, 16)}, api.ErrTwin)
	checked(t, "15 vertices of 16 segments", api.Drawing{V: d.V[:15], S: d.S}, api.ErrForm)
	checked(t, "as many segments as may be", changed(drawn(square(1, 1, 5)), func(d *api.Drawing) {
		d.S = slices.Repeat(d.S, 4)
	}), api.ErrLoop)
	checked(t, "one segment more", changed(drawn(square(1, 1, 5)), func(d *api.Drawing) {
		d.S = append(slices.Repeat(d.S, 4), d.S[0])
	}), api.ErrForm)
}

// TestEnds: each end of each segment, as it may not be.
func TestEnds(t *testing.T) {
	d := drawn(square(1, 1, 5), square(9, 9, 3))
	for _, n := range []int{-1, 8, 9, -2, -8, 15, 16, 17, 1 << 32, 1<<32 + 1, math.MaxInt, math.MinInt, math.MinInt + 1, math.MaxInt32, math.MinInt32} {
		for k := range d.S {
			checked(t, "end A", changed(d, func(d *api.Drawing) { d.S[k].A = n }), api.ErrForm)
			checked(t, "end B", changed(d, func(d *api.Drawing) { d.S[k].B = n }), api.ErrForm)
			checked(t, "both ends", changed(d, func(d *api.Drawing) { d.S[k].A, d.S[k].B = n, n }), api.ErrForm)
		}
	}
	for k := range d.S {
		checked(t, "ends that are one", changed(d, func(d *api.Drawing) { d.S[k].A = d.S[k].B }), api.ErrForm)
		checked(t, "ends that are one", changed(d, func(d *api.Drawing) { d.S[k].B = d.S[k].A }), api.ErrForm)
	}
	for i := range d.V {
		checked(t, "one more with one end", changed(d, func(d *api.Drawing) { d.S = append(d.S, api.Seg{A: i, B: i}) }), api.ErrForm)
	}
	checked(t, "one vertex, one end", api.Drawing{V: make([]api.Vert, 1), S: []api.Seg{{}}}, api.ErrForm)
	checked(t, "the last vertex taken away", changed(d, func(d *api.Drawing) { d.V = d.V[:7] }), api.ErrForm)
}

// TestMarks: those of each vertex and of each segment.
func TestMarks(t *testing.T) {
	d := drawn(square(1, 1, 5), square(9, 9, 3))
	for n, want := range map[int]api.Errno{
		0: api.OK, 1: api.OK, 999999: api.OK, 1000000: api.OK,
		-1: api.ErrForm, 1000001: api.ErrForm, -2: api.ErrForm, -1000000: api.ErrForm, 1 << 31: api.ErrForm, 1 << 32: api.ErrForm, 1<<32 + 1: api.ErrForm,
		math.MaxInt: api.ErrForm, math.MinInt: api.ErrForm, math.MaxInt32: api.ErrForm, math.MinInt32: api.ErrForm,
	} {
		for i := range d.V {
			checked(t, "a vertex's mark", changed(d, func(d *api.Drawing) { d.V[i].Mark = n }), want)
		}
		for k := range d.S {
			checked(t, "a segment's mark", changed(d, func(d *api.Drawing) { d.S[k].Mark = n }), want)
		}
	}
}

// noPoints are such as point's Is refuses.
func noPoints() []api.Point {
	raw := func(n, d int64) api.Rat { return api.Rat{N: wide.From(n), D: wide.From(d)} }
	good, l := rat(5, 2), []api.Point{{}}
	for _, a := range []api.Rat{
		{}, raw(1, 0), raw(0, 2), raw(0, -1), raw(2, 4), raw(4, 2), raw(-5, -2), raw(5, -2), raw(3, 3),
		{N: api.Wide{Neg: true}, D: wide.From(1)}, rat(1<<60, 1), rat(1, 1<<60), rat(1<<60, 1<<60-1), rat(1<<60-1, 1<<60), rat(-1<<60, 7),
	} {
		l = append(l, api.Point{X: a, Y: good}, api.Point{X: good, Y: a}, api.Point{X: a, Y: a})
	}
	return l
}

// TestNoPoints puts each at each place among holes' points that would do.
func TestNoPoints(t *testing.T) {
	d, good := drawn(square(1, 1, 5)), pt(5, 2, 5, 2)
	for _, p := range noPoints() {
		if point.Is(p) {
			t.Fatal("a point that Is")
		}
		for n := 1; n <= api.MaxHoles; n++ {
			for at := range n {
				h := slices.Repeat([]api.Point{good}, n)
				h[at] = p
				checked(t, "no point", with(d, h...), api.ErrForm)
			}
		}
	}
}

// TestLongPoints: a hole's point with numbers of just 60 bits is one.
func TestLongPoints(t *testing.T) {
	d := drawn(square(1, 1, 5))
	for _, p := range []api.Point{
		pt(1<<60-1, 1<<59, 5, 2), pt(5, 2, 1<<60-1, 1<<59), pt(1<<59, 1<<60-1, 1, 1<<60-1), pt(1, 1<<60-1, 1<<60-2, 1<<60-1), pt(1<<60-1, 1<<58+1, 1<<60-1, 1<<54+1),
	} {
		checked(t, "a long point", with(d, p), api.OK)
	}
	checked(t, "a great point", with(d, pt(1<<60-1, 1, 5, 2)), api.ErrHole)
	checked(t, "a point just past the greatest square", with(d, pt(1<<60-1, 1<<54-1, 5, 2)), api.ErrHole)
}

// TestRaw: drawings in which nothing is as it may be have an answer yet.
func TestRaw(t *testing.T) {
	ends := []int{math.MinInt, math.MaxInt, math.MinInt32, math.MaxInt32, -1, 0, 1, 1 << 32}
	for _, a := range ends {
		for _, b := range ends {
			d := drawn(square(1, 1, 5))
			d.S[1] = api.Seg{A: a, B: b, Mark: a}
			d.V[2] = api.Vert{X: a, Y: b, Mark: b}
			d.H = []api.Point{{}}
			checked(t, "raw", d, api.ErrForm)
			if a < 0 || b < 0 || a > 64 || b > 64 {
				checked(t, "a raw vertex", changed(drawn(square(1, 1, 5)), func(d *api.Drawing) { d.V[3].X, d.V[3].Y = a, b }), api.ErrBound)
			}
		}
	}
	full := four()
	for _, d := range []api.Drawing{{V: full.V}, {V: full.V, S: []api.Seg{}}, {V: full.V, H: full.H}, {V: full.V[:1]}, {V: full.V[:1], S: full.S[:0], H: full.H[:0]}} {
		checked(t, "no segments", d, api.ErrLoop)
	}
	checked(t, "an empty list of holes", api.Drawing{V: full.V, S: full.S, H: full.H[:0]}, api.OK)
	checked(t, "no list of holes", api.Drawing{V: full.V, S: full.S}, api.OK)
}
