package valid

import (
	"math"
	"testing"

	"parquet/api"
	"parquet/point"
)

// at asks that vertex i of d is at x, y.
func at(t *testing.T, d api.Drawing, i, x, y int) {
	t.Helper()
	if got := At(d, i); got != point.At(x, y) {
		t.Errorf("P9.1: At %d isn't (%d, %d): %s", i, x, y, show(d))
	}
}

func TestAt(t *testing.T) {
	d := drawn([]int{3, 4, 64, 0, 5, 64}, square(7, 8, 2))
	for i, v := range d.V {
		at(t, d, i, v.X, v.Y)
	}
	at(t, d, 0, 3, 4)
	at(t, d, 2, 5, 64)
	at(t, d, 6, 7, 10)
}

// TestAtNone: of no vertex it is 0, 0, whatever lies in spare room.
func TestAtNone(t *testing.T) {
	d := drawn([]int{3, 4, 9, 9, 5, 6})
	for _, i := range []int{-1, 3, 4, 5, -2, -3, 100, 1 << 32, 1<<32 + 1, math.MaxInt, math.MinInt, math.MinInt + 1, math.MaxInt32, math.MinInt32} {
		at(t, d, i, 0, 0)
		at(t, copied(d), i, 0, 0)
	}
}

func TestAtEmpty(t *testing.T) {
	full := drawn(square(3, 4, 5))
	for _, d := range []api.Drawing{{}, {V: []api.Vert{}}, {V: full.V[:0]}, {S: full.S}, {S: full.S, H: []api.Point{pt(1, 2, 3, 4)}}} {
		for _, i := range []int{-1, 0, 1, 3, math.MaxInt, math.MinInt} {
			at(t, d, i, 0, 0)
		}
	}
}

// TestAtRaw: it tells a vertex of any drawing, one that may not be too.
func TestAtRaw(t *testing.T) {
	ends := []int{math.MinInt, math.MinInt + 1, -1 << 60, math.MinInt32, -65, -1, 0, 1, 64, 65, math.MaxInt32, 1 << 32, 1 << 60, math.MaxInt - 1, math.MaxInt}
	var d api.Drawing
	for _, x := range ends {
		for _, y := range ends {
			d.V = append(d.V, api.Vert{X: x, Y: y, Mark: x})
		}
	}
	for i, v := range d.V {
		at(t, d, i, v.X, v.Y)
		at(t, api.Drawing{V: d.V[i:]}, 0, v.X, v.Y)
	}
	at(t, d, len(d.V), 0, 0)
	d.S, d.H = []api.Seg{{A: -1, B: 999, Mark: -1}}, make([]api.Point, 9)
	at(t, d, 1, ends[0], ends[1])
}

// TestAtUntouched: what is handed in is left as it was, and an answer isn't touched by what is done with it later.
func TestAtUntouched(t *testing.T) {
	d := copied(four())
	was := seen(d)
	p := At(d, 5)
	for i := -2; i < 20; i++ {
		At(d, i)
	}
	if seen(d) != was {
		t.Error("P9.1: At changed what it was handed")
	}
	d.V[5] = api.Vert{X: 1, Y: 2}
	if p != point.At(64, 0) || At(d, 5) != point.At(1, 2) {
		t.Error("P9.1: At of a vertex that was moved")
	}
}
