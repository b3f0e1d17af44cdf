package valid

import (
	"testing"

	"parquet/api"
)

func TestExample(t *testing.T) {
	checked(t, "a triangle", drawn([]int{0, 0, 4, 0, 0, 4}), api.OK)
}

func TestOrdinary(t *testing.T) {
	for name, d := range map[string]api.Drawing{
		"a triangle the other way round": drawn([]int{0, 0, 0, 4, 4, 0}),
		"a thin triangle":                drawn([]int{0, 0, 64, 63, 63, 62}),
		"the greatest square":            drawn(square(0, 0, 64)),
		"a small square":                 drawn(square(63, 63, 1)),
		"a square on its corner":         drawn([]int{32, 0, 64, 32, 32, 64, 0, 32}),
		"squares beside one another":     drawn(square(0, 0, 5), square(6, 0, 5), square(0, 6, 5)),
		"four squares":                   four(),
		"one within another":             drawn(square(0, 0, 9), square(1, 1, 7)),
		"four within one another":        drawn(square(0, 0, 9), square(1, 1, 7), square(2, 2, 5), square(3, 3, 3)),
		"two within one":                 drawn(square(0, 0, 20), square(1, 1, 3), square(5, 1, 3)),
		"five triangles":                 drawn([]int{0, 0, 1, 0, 0, 1}, []int{2, 0, 3, 0, 2, 1}, []int{4, 0, 5, 0, 4, 1}, []int{6, 0, 7, 0, 6, 1}, []int{8, 0, 9, 0, 8, 1}),
		"stairs":                         drawn([]int{0, 0, 16, 0, 16, 4, 12, 4, 12, 8, 8, 8, 8, 12, 4, 12, 4, 16, 0, 16}),
		"stairs down":                    drawn([]int{0, 0, 1, 0, 1, 1, 2, 1, 2, 2, 3, 2, 3, 3, 0, 3}),
		"a vertex on a straight way":     drawn([]int{0, 0, 4, 0, 8, 0, 0, 4}),
		"many on a straight way":         drawn([]int{0, 0, 1, 0, 2, 0, 3, 0, 4, 0, 4, 4, 3, 3, 2, 2, 1, 1}),
		"a notch":                        drawn([]int{0, 0, 8, 0, 8, 8, 4, 1, 0, 8}),
		"a comb":                         drawn([]int{0, 0, 7, 0, 7, 9, 6, 9, 6, 1, 5, 1, 5, 9, 4, 9, 4, 1, 3, 1, 3, 9, 2, 9, 2, 1, 1, 1, 1, 9, 0, 9}),
		"sixteen round":                  drawn(around16()),
	} {
		checked(t, name, d, api.OK)
	}
}

// TestBound moves each vertex to the rim of what may be, and past it.
func TestBound(t *testing.T) {
	d := drawn(square(20, 20, 20))
	for n, want := range map[int]api.Errno{0: api.OK, 64: api.OK, -1: api.ErrBound, 65: api.ErrBound, -64: api.ErrBound, 1 << 32: api.ErrBound, 1<<32 + 20: api.ErrBound, -1 << 62: api.ErrBound, 1<<63 - 1: api.ErrBound} {
		for i, v := range d.V {
			for _, place := range [][2]int{{n, v.Y}, {v.X, n}, {n, n}} {
				c := changed(d, func(d *api.Drawing) { d.V[i].X, d.V[i].Y = place[0], place[1] })
				if got := Check(c); (got == api.ErrBound) != (want == api.ErrBound) {
					t.Errorf("P9.1: vertex %d at %v: %v", i, place, got)
				}
			}
		}
	}
	checked(t, "at all four ends", drawn(square(0, 0, 64)), api.OK)
	checked(t, "all out of bounds", drawn(square(-1, -1, 66)), api.ErrBound)
	for i, row := range [][]int{{-1, 0, 9, 0, 0, 9}, {0, -1, 9, 0, 0, 9}, {65, 0, 9, 9, 0, 9}, {0, 65, 9, 0, 0, 9}} {
		checked(t, "one out of bounds "+string(rune('0'+i)), drawn(row), api.ErrBound)
		checked(t, "another out of bounds "+string(rune('0'+i)), drawn(append([]int{7, 7}, row...)), api.ErrBound)
	}
}

func TestTwin(t *testing.T) {
	for name, d := range map[string]api.Drawing{
		"neighbours":              drawn([]int{0, 0, 4, 0, 4, 0, 0, 4}),
		"the first and the last":  drawn([]int{0, 0, 4, 0, 0, 4, 0, 0}),
		"opposite ones":           drawn([]int{0, 0, 4, 0, 0, 0, 0, 4}),
		"all alike":               drawn([]int{5, 5, 5, 5, 5, 5}),
		"of two loops":            drawn(square(0, 0, 4), square(4, 4, 4)),
		"the same loop again":     drawn(square(0, 0, 4), square(0, 0, 4)),
		"one within, at a corner": drawn(square(0, 0, 9), []int{0, 0, 4, 2, 2, 4}),
		"an eight":                drawn([]int{0, 0, 4, 4, 8, 0, 8, 8, 4, 4, 0, 8}),
	} {
		checked(t, name, d, api.ErrTwin)
	}
	d := four()
	for i := range d.V {
		for j := range d.V {
			if i != j {
				checked(t, "each two", changed(d, func(d *api.Drawing) { d.V[i].X, d.V[i].Y = d.V[j].X, d.V[j].Y }), api.ErrTwin)
			}
		}
	}
	checked(t, "unlike marks", drawn([]int{0, 0, 4, 0, 4, 4, 4, 0}), api.ErrTwin)
	checked(t, "X of one is Y of the other", drawn([]int{1, 2, 2, 1, 2, 2}), api.OK)
	checked(t, "like X or like Y alone", drawn([]int{0, 0, 0, 1, 1, 1, 1, 0}), api.OK)
}

// TestEndsOfSegments: a vertex of no, one, two, three and more segments, wherever it stands in the list.
func TestEndsOfSegments(t *testing.T) {
	d := drawn(square(0, 0, 9), square(20, 20, 9), []int{40, 40, 44, 40, 40, 44})
	for k := range d.S {
		checked(t, "without a segment", changed(d, func(d *api.Drawing) { d.S = append(d.S[:k], d.S[k+1:]...) }), api.ErrLoop)
		checked(t, "a segment twice", changed(d, func(d *api.Drawing) { d.S = append(d.S, d.S[k]) }), api.ErrLoop)
		checked(t, "a segment in another's stead", changed(d, func(d *api.Drawing) { d.S[k] = d.S[(k+1)%len(d.S)] }), api.ErrLoop)
	}
	for i := range len(d.V) + 1 {
		lone := api.Vert{X: 15, Y: 15}
		checked(t, "a vertex of none", changed(d, func(d *api.Drawing) {
			d.V = append(d.V[:i:i], append([]api.Vert{lone}, d.V[i:]...)...)
			for k, g := range d.S {
				if g.A >= i {
					d.S[k].A++
				}
				if g.B >= i {
					d.S[k].B++
				}
			}
		}), api.ErrLoop)
	}
	for i := range d.V {
		for j := range d.V {
			if i != j {
				checked(t, "one segment more", changed(d, func(d *api.Drawing) { d.S = append(d.S, api.Seg{A: i, B: j}) }), api.ErrLoop)
			}
		}
	}
	triangle := drawn([]int{0, 0, 4, 0, 0, 4})
	for name, s := range map[string][]api.Seg{
		"none, none, none":  nil,
		"one, one, none":    {{A: 0, B: 1}},
		"one, two, one":     {{A: 0, B: 1}, {A: 1, B: 2}},
		"two, two, none":    {{A: 0, B: 1}, {A: 1, B: 0}},
		"two, three, one":   {{A: 0, B: 1}, {A: 0, B: 1}, {A: 1, B: 2}},
		"three, three, two": {{A: 0, B: 1}, {A: 1, B: 2}, {A: 2, B: 0}, {A: 1, B: 0}},
		"four each":         {{A: 0, B: 1}, {A: 1, B: 2}, {A: 2, B: 0}, {A: 1, B: 0}, {A: 2, B: 1}, {A: 0, B: 2}},
	} {
		checked(t, name, api.Drawing{V: triangle.V, S: s}, api.ErrLoop)
	}
	checked(t, "a vertex alone", api.Drawing{V: triangle.V[:1]}, api.ErrLoop)
}

func TestCross(t *testing.T) {
	for name, d := range map[string]api.Drawing{
		"an hourglass":                       drawn([]int{0, 0, 4, 4, 4, 0, 0, 4}),
		"loops that cross":                   drawn(square(0, 0, 9), square(8, 8, 4)),
		"a star":                             drawn([]int{32, 0, 50, 60, 0, 20, 64, 20, 14, 60}),
		"an end on another's middle":         drawn([]int{0, 0, 10, 0, 10, 10, 5, 0, 0, 10}),
		"an end of another loop":             drawn(square(0, 0, 9), []int{2, 0, 4, 2, 2, 4}),
		"an end from without":                drawn(square(4, 4, 9), []int{4, 8, 0, 9, 0, 7}),
		"an end on a slope":                  drawn([]int{0, 0, 8, 4, 0, 8}, []int{4, 2, 8, 0, 9, 1}),
		"in part on one another":             drawn(square(0, 0, 4), []int{4, 1, 8, 1, 8, 5, 4, 5}),
		"one in the other's middle":          drawn(square(0, 0, 9), []int{9, 3, 12, 3, 12, 6, 9, 6}),
		"sloping, in part on one another":    drawn([]int{0, 0, 8, 8, 0, 8}, []int{4, 4, 12, 12, 12, 4}),
		"with a common end on one another":   drawn([]int{0, 0, 8, 0, 4, 0, 0, 4}),
		"and upright":                        drawn([]int{3, 0, 3, 8, 3, 4, 9, 0}),
		"and sloping":                        drawn([]int{0, 0, 6, 9, 4, 6, 9, 0}),
		"three vertices in a line":           drawn([]int{0, 0, 4, 4, 8, 8}),
		"three vertices in a level line":     drawn([]int{7, 5, 1, 5, 3, 5}),
		"a segment doubled":                  {V: []api.Vert{{X: 1, Y: 1}, {X: 5, Y: 2}}, S: []api.Seg{{A: 0, B: 1}, {A: 0, B: 1}}},
		"a segment doubled, other way round": {V: []api.Vert{{X: 1, Y: 1}, {X: 5, Y: 2}}, S: []api.Seg{{A: 0, B: 1}, {A: 1, B: 0}}},
		"a doubled one beside a square":      changed(drawn(square(0, 0, 9), []int{20, 20, 30, 20}), func(d *api.Drawing) { d.S[4].Mark = 7 }),
		"in the last two alone":              drawn(square(0, 0, 5), []int{10, 10, 40, 10, 40, 40, 20, 0}),
		"the rims of the greatest square":    drawn(square(0, 0, 64), []int{0, 30, 0, 34, 9, 32}),
	} {
		checked(t, name, d, api.ErrCross)
	}
}

// TestNearly: segments that would meet if one were a little longer, or lay a little aside.
func TestNearly(t *testing.T) {
	for name, d := range map[string]api.Drawing{
		"an end ahead of another's middle": drawn([]int{0, 0, 10, 0, 10, 10, 5, 1, 0, 10}),
		"in line, apart":                   drawn([]int{0, 0, 4, 0, 0, 4}, []int{5, 0, 9, 0, 9, 4}),
		"a sloping line, apart":            drawn([]int{0, 0, 4, 4, 0, 4}, []int{5, 5, 9, 9, 9, 5}),
		"side by side":                     drawn([]int{0, 0, 60, 59, 0, 59}, []int{1, 0, 61, 59, 61, 0}),
		"a corner ahead of a slope":        drawn([]int{0, 0, 63, 64, 0, 64}, []int{32, 32, 64, 32, 64, 33}),
		"into a sharp corner":              drawn([]int{0, 0, 64, 1, 64, 64, 0, 64}, []int{62, 1, 63, 2, 1, 2}),
		"boxes that meet alone":            drawn([]int{0, 0, 9, 9, 0, 9}, []int{2, 1, 9, 1, 9, 8}),
	} {
		checked(t, name, d, api.OK)
	}
	checked(t, "a corner on a slope", drawn([]int{0, 0, 64, 64, 0, 64}, []int{32, 32, 64, 32, 64, 33}), api.ErrCross)
	checked(t, "a corner past a slope", drawn([]int{0, 0, 63, 64, 0, 64}, []int{31, 32, 64, 32, 64, 33}), api.ErrCross)
	checked(t, "past a sharp corner", drawn([]int{0, 0, 64, 1, 64, 64, 0, 64}, []int{64, 2, 63, 2, 1, 2}), api.ErrCross)
}
