package line

import (
	"testing"

	"parquet/api"
	"parquet/point"
	"parquet/ratio"
)

func TestExample(t *testing.T) {
	if y, ok := YAt(at(0, 0), at(2, 1), raw(1, 1)); y != raw(1, 2) || !ok {
		t.Errorf("P4.3: YAt of (0, 0), (2, 1) at 1: %s, %v", show(y), ok)
	}
}

// TestThereAndBack: the point that YAt tells lies on the segment, and no other with that x; XAt tells its x.
func TestThereAndBack(t *testing.T) {
	s := source(123456789)
	for range 500 {
		a, b, x := s.point(8), s.point(8), s.fraction(6)
		y, ok := YAt(a, b, x)
		if !ok {
			continue
		}
		p := api.Point{X: x, Y: y}
		if on, is := On(a, b, p); !on || !is {
			t.Fatalf("P4.3: %s isn't on the segment of %s", place(p), place(a, b))
		}
		above, _ := ratio.Add(y, raw(1, 1<<20))
		if on, is := On(a, b, api.Point{X: x, Y: above}); on || !is {
			t.Fatalf("P4.3: above %s is on the segment of %s", place(p), place(a, b))
		}
		if back, is := XAt(a, b, y); is != (a.Y != b.Y) || is && back != x {
			t.Fatalf("P4.3: XAt of %s at %s: %s, %v", place(a, b), show(y), show(back), is)
		}
	}
}

// TestUpright: an upright segment meets another just where YAt tells a number from its one end to its other.
func TestUpright(t *testing.T) {
	for _, a := range grid() {
		for _, b := range grid() {
			for _, c := range grid() {
				for n := int64(-1); n <= 1; n++ {
					d := api.Point{X: c.X, Y: raw(n, 3)}
					if n == 0 {
						d.Y = raw(0, 1)
					}
					checkUpright(t, a, b, c, d)
				}
			}
		}
	}
}

func checkUpright(t *testing.T, a, b, c, d api.Point) {
	t.Helper()
	if a.X == b.X {
		return
	}
	y, ok := YAt(a, b, c.X)
	if n, is := Meet(a, b, c, d); !ok {
		if n != 0 || !is {
			t.Fatalf("P4.3: Meet of %s, where YAt tells none: %d, %v", place(a, b, c, d), n, is)
		}
		return
	}
	p := api.Point{X: c.X, Y: y}
	on, _ := On(c, d, p)
	want := 0
	if on {
		want = 2
	}
	if on && (p == a || p == b) && (p == c || p == d) {
		want = 1
	}
	if n, is := Meet(a, b, c, d); n != want || !is {
		t.Fatalf("P4.3: Meet of %s: %d, %v; YAt tells %s", place(a, b, c, d), n, is, show(y))
	}
}

// TestAlone: a segment of one point meets what that point is on, and an end of it just as an end.
func TestAlone(t *testing.T) {
	for _, a := range grid() {
		for _, b := range grid() {
			for _, p := range grid() {
				on, _ := On(a, b, p)
				n, _ := Meet(a, b, p, p)
				first, _ := point.Cmp(p, a)
				last, _ := point.Cmp(p, b)
				if on != (n != 0) || on && (first == 0 || last == 0) != (n == 1) {
					t.Fatalf("P4.3: %s: On %v, Meet %d", place(a, b, p), on, n)
				}
			}
		}
	}
}
