package loop

import (
	"math"
	"slices"
	"testing"

	"parquet/api"
	"parquet/point"
	"parquet/valid"
)

// refused asks that nothing is told of d: no loops, and 0, whatever else is handed in.
func refused(t testing.TB, name string, d api.Drawing) {
	t.Helper()
	must(t, valid.Check(d) != api.OK, "%s may be", name)
	rows(t, name, d, nil)
	for _, row := range [][]int{nil, {}, {0, 1, 2}, {0, 1, 2, 3}, {2, 1, 0}, {-1, 99, math.MaxInt}} {
		area(t, name, d, row, 0)
		for _, p := range []api.Point{point.At(1, 1), point.At(0, 0), point.At(12, 12), point.At(-5, 100), pt(1, 2, 1, 3), {}, point.At(math.MinInt, 0)} {
			placed(t, name, d, row, p, 0)
		}
	}
	for _, k := range []int{0, 1, 2, -1, 16, math.MaxInt, math.MinInt} {
		deep(t, name, d, k, 0)
	}
}

// wrong tells one drawing or more of each of valid's errors, each made of one that may be.
func wrong() map[api.Errno][]api.Drawing {
	good := drawn(square(10, 10, 10), square(12, 12, 5))
	move := func(i, x, y int) api.Drawing {
		return changed(good, func(d *api.Drawing) { d.V[i].X, d.V[i].Y = x, y })
	}
	segs := func(does func(s []api.Seg) []api.Seg) api.Drawing {
		return changed(good, func(d *api.Drawing) { d.S = does(d.S) })
	}
	return map[api.Errno][]api.Drawing{
		api.ErrForm: {
			{}, {V: []api.Vert{}, S: []api.Seg{}, H: []api.Point{}}, {S: good.S}, {H: make([]api.Point, 1)},
			with(good, api.Point{}), with(good, slices.Repeat([]api.Point{pt(1, 1, 1, 1)}, 5)...),
			changed(good, func(d *api.Drawing) { d.V[7].Mark = -1 }), changed(good, func(d *api.Drawing) { d.S[7].Mark = 1000001 }),
			segs(func(s []api.Seg) []api.Seg { s[3].A = -1; return s }), segs(func(s []api.Seg) []api.Seg { s[3].B = 8; return s }), segs(func(s []api.Seg) []api.Seg { s[3].B = s[3].A; return s }),
			segs(func(s []api.Seg) []api.Seg { return append(s, slices.Repeat(s[:1], 9)...) }),
			changed(good, func(d *api.Drawing) { d.V = append(d.V, make([]api.Vert, 9)...) }), {V: make([]api.Vert, 1000)},
		},
		api.ErrBound: {move(0, -1, 10), move(2, 65, 20), move(2, 20, 65), move(1, 20, -1), move(5, 1<<32, 1<<32)},
		api.ErrTwin:  {move(1, 10, 10), move(4, 20, 20), {V: make([]api.Vert, 2)}},
		api.ErrLoop: {
			segs(func(s []api.Seg) []api.Seg { return s[:7] }), segs(func(s []api.Seg) []api.Seg { return s[1:] }), segs(func(s []api.Seg) []api.Seg { return nil }),
			segs(func(s []api.Seg) []api.Seg { return append(s, s[0]) }), segs(func(s []api.Seg) []api.Seg { s[0].A = 4; return s }),
			changed(good, func(d *api.Drawing) { d.V = append(d.V, api.Vert{X: 1, Y: 1}) }), {V: good.V[:1]},
		},
		api.ErrCross: {
			move(5, 25, 13), move(4, 10, 12), move(6, 20, 19), segs(func(s []api.Seg) []api.Seg { s[4].B, s[6].A = 6, 5; return s }),
			{V: good.V[:2], S: []api.Seg{{A: 0, B: 1}, {A: 1, B: 0}}}, drawn([]int{0, 0, 4, 4, 8, 8}), drawn([]int{0, 0, 4, 4, 4, 0, 0, 4}),
		},
		api.ErrHole: {with(good, pt(10, 1, 15, 1)), with(good, pt(0, 1, 1, 1)), with(good, pt(1, 1, 64, 1)), with(good, pt(15, 1, 15, 1), pt(12, 1, 12, 1)), with(good, pt(-5, 1, 5, 1))},
	}
}

// TestWrong: of a drawing with any one error nothing is told.
func TestWrong(t *testing.T) {
	refusedOf := wrong()
	for _, e := range []api.Errno{api.ErrForm, api.ErrBound, api.ErrTwin, api.ErrLoop, api.ErrCross, api.ErrHole} {
		must(t, len(refusedOf[e]) > 0, "%v isn't tried", e)
		for _, d := range refusedOf[e] {
			must(t, valid.Check(d) == e, "%v, not %v: %s", valid.Check(d), e, show(d))
			refused(t, e.Error(), d)
		}
	}
}

// TestRaw: numbers at int's ends in any place.
func TestRaw(t *testing.T) {
	ends := []int{math.MinInt, math.MinInt + 1, -1 << 32, math.MinInt32, -1, math.MaxInt32, 1 << 32, 1<<32 + 1, math.MaxInt - 1, math.MaxInt}
	good := drawn(square(10, 10, 10), square(12, 12, 5))
	for _, n := range ends {
		for _, d := range []api.Drawing{
			changed(good, func(d *api.Drawing) { d.V[0].X = n }), changed(good, func(d *api.Drawing) { d.V[5].Y = n }), changed(good, func(d *api.Drawing) { d.V[7].Mark = n }),
			changed(good, func(d *api.Drawing) { d.S[0].A = n }), changed(good, func(d *api.Drawing) { d.S[5].B = n }), changed(good, func(d *api.Drawing) { d.S[7].Mark = n }),
			{V: []api.Vert{{X: n, Y: n, Mark: n}}, S: []api.Seg{{A: n, B: n, Mark: n}}, H: []api.Point{point.At(n, n)}},
			{S: []api.Seg{{A: n, B: n, Mark: n}}}, {V: slices.Repeat([]api.Vert{{X: n, Y: n}}, 40), S: slices.Repeat([]api.Seg{{A: n, B: -n}}, 40)},
		} {
			refused(t, "raw", d)
		}
		area(t, "at an end", good, []int{n, 0, n, 1, 2, n}, Area2(good, []int{-1, 0, -1, 1, 2, -1}))
		placed(t, "at an end", good, []int{n, 1, 2, 3}, point.At(15, 15), -1)
		deep(t, "at an end", good, n, 0)
	}
}

// TestNilOrEmpty: lists that are nil and empty ones are the same.
func TestNilOrEmpty(t *testing.T) {
	for _, v := range [][]api.Vert{nil, {}} {
		for _, s := range [][]api.Seg{nil, {}} {
			for _, h := range [][]api.Point{nil, {}} {
				refused(t, "nothing", api.Drawing{V: v, S: s, H: h})
			}
		}
	}
	d := drawn(square(10, 10, 10))
	for _, h := range [][]api.Point{nil, {}} {
		d.H = h
		rows(t, "no holes' points", d, [][]int{{0, 1, 2, 3}})
		area(t, "no row", d, nil, 0)
		area(t, "an empty row", d, []int{}, 0)
		placed(t, "no row", d, nil, point.At(15, 15), -1)
		placed(t, "an empty row", d, []int{}, point.At(15, 15), -1)
	}
}
