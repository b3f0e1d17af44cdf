package loop

import (
	"math"
	"slices"
	"testing"

	"parquet/api"
	"parquet/point"
	"parquet/wide"
)

// placed asks that Within tells this, and leaves all as it was.
func placed(t testing.TB, name string, d api.Drawing, l []int, p api.Point, want int) {
	t.Helper()
	c, row := copied(d), spared(l, -9)
	was, held := seen(c), slices.Clone(row[:cap(row)])
	if got := Within(c, row, p); got != want {
		t.Errorf("P10.1: %s: %s in %v: %d, not %d: %.2000s", name, spot(p), l, got, want, show(d))
	}
	must(t, seen(c) == was && slices.Equal(row[:cap(row)], held), "P10.1: %s: Within changed what it was handed", name)
}

// tiny is as close to 0 as a point's numbers may be.
const tiny = 1<<60 - 1

func TestWithinSquare(t *testing.T) {
	d := drawn(square(10, 20, 10))
	for _, r := range []struct {
		name string
		p    api.Point
		want int
	}{
		{"the middle", point.At(15, 25), 1}, {"near a corner", point.At(11, 21), 1}, {"fractions within", pt(41, 3, 99, 4), 1},
		{"lower side", point.At(15, 20), 0}, {"right side", point.At(20, 25), 0}, {"upper side", point.At(15, 30), 0}, {"left side", point.At(10, 25), 0},
		{"a fraction on the lower side", pt(31, 3, 20, 1), 0}, {"on the right side", pt(20, 1, 89, 3), 0}, {"on the upper side", pt(59, 3, 30, 1), 0}, {"on the left side", pt(10, 1, 61, 3), 0},
		{"lower left", point.At(10, 20), 0}, {"lower right", point.At(20, 20), 0}, {"upper right", point.At(20, 30), 0}, {"upper left", point.At(10, 30), 0},
		{"left", point.At(5, 25), -1}, {"right", point.At(25, 25), -1}, {"below", point.At(15, 5), -1}, {"above", point.At(15, 35), -1},
		{"level with the lower side, left", point.At(9, 20), -1}, {"and right", point.At(21, 20), -1}, {"level with the upper side, left", point.At(9, 30), -1}, {"and right", point.At(21, 30), -1},
		{"upright below the left side", point.At(10, 19), -1}, {"and above", point.At(10, 31), -1}, {"upright below the right side", point.At(20, 19), -1}, {"and above", point.At(20, 31), -1},
		{"far left and level", point.At(-1<<59, 25), -1}, {"far right and level", point.At(1<<59, 25), -1}, {"far below", point.At(15, -1<<59), -1}, {"far above", point.At(15, 1<<59), -1},
		{"0, 0", point.At(0, 0), -1}, {"below 0", point.At(-15, -25), -1}, {"turned about 0", point.At(25, 15), -1},
		{"just within", pt(10*1000+1, 1000, 20*1000+1, 1000), 1}, {"just left", pt(10*1000-1, 1000, 25, 1), -1}, {"just below", pt(15, 1, 20*1000-1, 1000), -1}, {"just right", pt(20*1000+1, 1000, 25, 1), -1}, {"just above", pt(15, 1, 30*1000+1, 1000), -1},
	} {
		placed(t, r.name, d, []int{0, 1, 2, 3}, r.p, r.want)
		right := joined([]int{10, 20, 10, 30, 20, 30, 20, 20}, [2]int{0, 1}, [2]int{1, 2}, [2]int{2, 3}, [2]int{3, 0})
		placed(t, r.name+", to the right", right, []int{0, 1, 2, 3}, r.p, r.want)
	}
}

// TestWithinNear: as close to a side or a corner as a point's numbers may be.
func TestWithinNear(t *testing.T) {
	d := drawn([]int{0, 0, 1, 0, 1, 1, 0, 1}) // the sides at 0 may be come as close to as one likes
	in, half := rat(1, tiny), rat(1, 2)
	out, near := rat(-1, tiny), rat(tiny-1, tiny)
	beyond := rat(tiny, tiny-1)
	for _, r := range []struct {
		x, y api.Rat
		want int
	}{
		{in, half, 1}, {out, half, -1}, {half, in, 1}, {half, out, -1}, {near, half, 1}, {half, near, 1}, {beyond, half, -1}, {half, beyond, -1},
		{in, in, 1}, {in, out, -1}, {out, in, -1}, {out, out, -1}, {near, near, 1}, {near, in, 1}, {in, near, 1}, {beyond, beyond, -1}, {beyond, near, -1}, {near, beyond, -1}, {beyond, in, -1}, {in, beyond, -1},
		{rat(0, 1), in, 0}, {in, rat(0, 1), 0}, {rat(1, 1), in, 0}, {near, rat(1, 1), 0}, {rat(0, 1), out, -1}, {out, rat(0, 1), -1}, {rat(1, 1), beyond, -1}, {beyond, rat(1, 1), -1},
	} {
		placed(t, "near", d, []int{0, 1, 2, 3}, api.Point{X: r.x, Y: r.y}, r.want)
	}
	slope := drawn([]int{0, 0, 64, 64, 0, 64})
	placed(t, "on a slope", slope, []int{0, 1, 2}, api.Point{X: in, Y: in}, 0)
	placed(t, "just left of a slope", slope, []int{0, 1, 2}, api.Point{X: in, Y: rat(1, tiny-1)}, 1)
	placed(t, "just right of a slope", slope, []int{0, 1, 2}, api.Point{X: rat(1, tiny-1), Y: in}, -1)
}

// TestWithinSaw: at the height of corners, upright above and below them, on slopes.
func TestWithinSaw(t *testing.T) {
	d := saw()
	row := []int{0, 1, 2, 3, 4, 5, 6}
	for _, r := range []struct {
		x, y, want int
	}{
		{0, 4, 0}, {2, 4, 1}, {4, 4, 0}, {8, 4, 1}, {12, 4, 0}, {14, 4, 1}, {16, 4, 0}, {-1, 4, -1}, {17, 4, -1}, // level with corners
		{4, 2, -1}, {4, 0, -1}, {4, 5, 1}, {4, 8, 0}, {4, 9, -1}, {12, 3, -1}, {12, 7, 1}, // upright above and below corners
		{8, 0, 0}, {8, -1, -1}, {8, 1, 1}, {8, 7, 1}, {8, 8, 0}, {8, 9, -1},
		{0, 0, 0}, {-1, 0, -1}, {0, -1, -1}, {0, 9, -1}, {16, 0, 0}, {16, -1, -1}, {17, 0, -1}, {4, -1, -1}, {12, 0, -1},
		{2, 2, 0}, {6, 2, 0}, {10, 2, 0}, {14, 2, 0}, {1, 2, 1}, {3, 2, -1}, {7, 2, 1}, {9, 2, 1}, {11, 2, -1}, {13, 2, -1}, {15, 2, 1},
		{-1, 8, -1}, {17, 8, -1}, {0, 8, 0}, {16, 8, 0},
	} {
		placed(t, "a saw", d, row, point.At(r.x, r.y), r.want)
	}
	placed(t, "a slope's fraction", d, row, pt(7, 3, 7, 3), 0)
	placed(t, "beside a slope's fraction", d, row, pt(7, 3, 8, 3), 1)
	placed(t, "below a slope's fraction", d, row, pt(7, 3, 2, 1), -1)
}

// TestWithinComb: of a loop that isn't convex each tooth, each gap.
func TestWithinComb(t *testing.T) {
	d := comb()
	row := All(d)[0]
	for n := range 15 {
		want := []int{0, 1, 0, -1}[n%4]
		p := pt(int64(n), 2, 5, 1)
		placed(t, "a comb", d, row, p, want)
		placed(t, "a comb's back", d, row, pt(int64(n), 2, 1, 2), min(1, n, 14-n))
	}
	placed(t, "between teeth, on the back", d, row, pt(3, 2, 1, 1), 0)
	placed(t, "below a tooth, at the back's height", d, row, pt(5, 2, 1, 1), 1)
	placed(t, "a tooth's end", d, row, pt(5, 2, 9, 1), 0)
	placed(t, "between teeth's ends", d, row, pt(3, 2, 9, 1), -1)
}

// TestWithinStraight: vertices on a straight way don't part it.
func TestWithinStraight(t *testing.T) {
	d := drawn([]int{4, 0, 4, 2, 4, 4, 4, 8, 0, 4}, []int{20, 20, 22, 22, 24, 24, 28, 28, 20, 28})
	for y := int64(-1); y <= 18; y++ {
		want := 0
		if y < 0 || y > 16 {
			want = -1
		}
		placed(t, "on it", d, []int{0, 1, 2, 3, 4}, pt(4, 1, y, 2), want)
		inside := -1
		if y > 1 && y < 15 {
			inside = 1
		}
		placed(t, "left of it", d, []int{0, 1, 2, 3, 4}, pt(7, 2, y, 2), map[bool]int{true: 0, false: inside}[y == 1 || y == 15])
		placed(t, "right of it", d, []int{0, 1, 2, 3, 4}, pt(9, 2, y, 2), -1)
	}
	for _, n := range []int64{40, 41, 44, 45, 48, 56} {
		placed(t, "on a slope", d, []int{5, 6, 7, 8, 9}, pt(n, 2, n, 2), 0)
	}
	placed(t, "above a slope's vertex", d, []int{5, 6, 7, 8, 9}, point.At(22, 23), 1)
	placed(t, "below a slope's vertex", d, []int{5, 6, 7, 8, 9}, point.At(22, 21), -1)
	placed(t, "ahead of a slope", d, []int{5, 6, 7, 8, 9}, point.At(19, 19), -1)
	placed(t, "behind a slope", d, []int{5, 6, 7, 8, 9}, point.At(29, 29), -1)
}

// none are no points, or ones with numbers that are too long.
func none() []api.Point {
	long := rat(1<<61-1, 1)
	good := rat(1, 2)
	two := api.Rat{N: wide.From(2), D: wide.From(4)}
	under := api.Rat{N: wide.From(1), D: wide.From(-2)}
	minus := api.Rat{N: api.Wide{Neg: true}, D: wide.From(1)}
	l := []api.Point{{}}
	for _, a := range []api.Rat{{}, long, rat(-(1<<61 - 1), 1), rat(1, 1<<61-1), two, under, minus, {N: wide.From(1)}, {D: wide.From(1), N: api.Wide{Neg: true}}, {N: wide.From(5), D: wide.From(5)}} {
		l = append(l, api.Point{X: a, Y: good}, api.Point{X: good, Y: a}, api.Point{X: a, Y: a})
	}
	return append(l, point.At(math.MinInt, 1), point.At(1, math.MaxInt), point.At(1<<60, 1), point.At(1, -1<<60))
}

// TestWithinNone: of points that aren't point's Is -1, though they would be within, or on it.
func TestWithinNone(t *testing.T) {
	d := drawn(square(0, 0, 9), square(3, 3, 2))
	for _, p := range none() {
		must(t, !point.Is(p), "%s is a point", spot(p))
		for _, row := range All(d) {
			placed(t, "no point", d, row, p, -1)
		}
		placed(t, "no point, and no loop", d, nil, p, -1)
	}
	placed(t, "one that is", d, []int{0, 1, 2, 3}, pt(1, 2, 1, 2), 1)
	placed(t, "the longest one", d, []int{0, 1, 2, 3}, point.At(1<<60-1, 1-1<<60), -1)
}

// TestWithinNoLoop: of a row that is none of All -1.
func TestWithinNoLoop(t *testing.T) {
	d := drawn(square(0, 0, 9), square(3, 3, 2))
	for _, row := range [][]int{nil, {}, {0}, {0, 1}, {0, 1, 2}, {1, 2, 3}, {0, 3, 2, 1}, {1, 2, 3, 0}, {0, 1, 2, 3, 0}, {0, 1, 2, 3, 4}, {0, 1, 2, 3, 4, 5, 6, 7}, {0, 1, 2, 7}, {0, 2, 1, 3}, {8, 9, 10, 11}, {-1, -2, -3}, {math.MaxInt, math.MinInt, 1 << 32}, slices.Repeat([]int{0, 1, 2, 3}, 1000)} {
		for _, p := range []api.Point{point.At(1, 1), point.At(4, 4), point.At(0, 0), point.At(3, 4), point.At(20, 20)} {
			placed(t, "no loop", d, row, p, -1)
		}
	}
}

// TestWithinNested: each loop for itself, whatever lies in it or around it.
func TestWithinNested(t *testing.T) {
	d := drawn(square(0, 0, 20), []int{2, 2, 2, 18, 18, 18, 18, 2}, []int{4, 4, 8, 4, 4, 8}, square(30, 0, 9))
	for _, r := range []struct {
		p    api.Point
		want [4]int
	}{
		{point.At(1, 1), [4]int{1, -1, -1, -1}}, {point.At(3, 3), [4]int{1, 1, -1, -1}}, {point.At(5, 5), [4]int{1, 1, 1, -1}}, {point.At(6, 6), [4]int{1, 1, 0, -1}},
		{point.At(0, 5), [4]int{0, -1, -1, -1}}, {point.At(2, 5), [4]int{1, 0, -1, -1}}, {point.At(4, 5), [4]int{1, 1, 0, -1}}, {point.At(31, 5), [4]int{-1, -1, -1, 1}}, {point.At(25, 5), [4]int{-1, -1, -1, -1}},
	} {
		for k, row := range All(d) {
			placed(t, "nested", d, row, r.p, r.want[k])
		}
	}
}

// TestWithinScattered holds random points, vertices and sides' middles against how often a loop goes round them.
func TestWithinScattered(t *testing.T) {
	s, count := source(987654321987654321), map[int]int{}
	for i := range 400 {
		side := []int{4, 9, 64}[i%3]
		d := s.scattered(side)
		l := []api.Point{}
		for range 10 {
			l = append(l, s.point(side))
		}
		for _, g := range d.S {
			a, b := d.V[g.A], d.V[g.B]
			l = append(l, pt(int64(a.X+b.X), 2, int64(a.Y+b.Y), 2), pt(int64(a.X), 1, int64(b.Y), 1), pt(int64(2*a.X+b.X), 3, int64(a.Y), 1), point.At(a.X, a.Y))
		}
		for _, row := range All(d) {
			for _, p := range l {
				want := winding(d, row, p)
				placed(t, "scattered", d, row, p, want)
				count[want]++
			}
		}
	}
	for where := -1; where <= 1; where++ {
		must(t, count[where] >= 500, "just %d points at %d", count[where], where)
	}
}
