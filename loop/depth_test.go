package loop

import (
	"math"
	"testing"

	"parquet/api"
)

// deep asks that Depth tells this, and leaves d as it was.
func deep(t testing.TB, name string, d api.Drawing, k, want int) {
	t.Helper()
	c := copied(d)
	was := seen(c)
	if got := Depth(c, k); got != want {
		t.Errorf("P10.1: %s: depth of %d: %d, not %d: %.2000s", name, k, got, want, show(d))
	}
	must(t, seen(c) == was, "P10.1: %s: Depth changed what it was handed", name)
}

func TestDepthOrdinary(t *testing.T) {
	for _, k := range ordinary() {
		for i, want := range k.depth {
			deep(t, k.name, k.d, i, want)
		}
	}
}

// TestDepthNone: of a place that is no loop's 0.
func TestDepthNone(t *testing.T) {
	for _, k := range ordinary() {
		for _, i := range []int{-1, len(k.rows), len(k.rows) + 1, len(k.d.V), -2, 16, 1 << 32, 1<<32 + 1, math.MaxInt, math.MinInt, math.MinInt + 1, math.MaxInt32, math.MinInt32} {
			if i < 0 || i >= len(k.rows) {
				deep(t, k.name+", no loop", k.d, i, 0)
			}
		}
	}
}

// TestDepthAround: what is around counts, whatever way round it goes, not what lies within, level with it or in a notch.
func TestDepthAround(t *testing.T) {
	outer := []int{0, 0, 0, 40, 40, 40, 40, 0}
	for name, k := range map[string]struct {
		d    api.Drawing
		want []int
	}{
		"to the right":          {drawn(outer, square(10, 10, 5)), []int{0, 1}},
		"level with corners":    {drawn([]int{0, 20, 20, 0, 40, 20, 20, 40}, square(20, 20, 5), square(1, 1, 2)), []int{0, 1, 0}},
		"level, without":        {drawn([]int{20, 20, 30, 10, 40, 20, 30, 30}, square(5, 20, 3), square(50, 20, 3), square(30, 1, 3)), []int{0, 0, 0, 0}},
		"upright above a notch": {drawn([]int{0, 0, 40, 0, 40, 40, 20, 10, 0, 40}, square(20, 20, 3), square(19, 3, 3)), []int{0, 0, 1}},
		"within each of two":    {drawn(square(0, 0, 30), square(32, 0, 30), square(3, 3, 3), square(35, 3, 3)), []int{0, 0, 1, 1}},
		"deep within one alone": {drawn(square(0, 0, 30), square(3, 3, 20), square(5, 5, 10), square(40, 40, 3)), []int{0, 1, 2, 0}},
		"a corner nearly on it": {drawn([]int{0, 0, 64, 64, 0, 64}, []int{1, 2, 2, 3, 1, 3}, []int{2, 1, 3, 2, 3, 1}), []int{0, 1, 0}},
	} {
		for i, want := range k.want {
			deep(t, name, k.d, i, want)
		}
		deep(t, name, k.d, len(k.want), 0)
	}
}

// TestDepthScattered holds it against how often other loops go round each of its vertices.
func TestDepthScattered(t *testing.T) {
	s, count := source(192837465192837465), map[int]int{}
	for i := range 1500 {
		d := s.scattered([]int{7, 12, 64}[i%3])
		l := All(d)
		for k, row := range l {
			for _, v := range row {
				want := 0
				for j, other := range l {
					if j != k && winding(d, other, pt(int64(d.V[v].X), 1, int64(d.V[v].Y), 1)) == 1 {
						want++
					}
				}
				if v == row[0] {
					deep(t, "scattered", d, k, want)
					count[want]++
				} else if Depth(d, k) != want {
					t.Errorf("P10.2: loop %d doesn't keep apart at %d: %s", k, v, show(d))
				}
			}
		}
	}
	must(t, count[0] >= 100 && count[1] >= 100 && count[2] >= 100, "depths: %v", count)
}
