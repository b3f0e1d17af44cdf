package loop

import (
	"reflect"
	"slices"
	"sync"
	"testing"

	"parquet/api"
	"parquet/point"
	"parquet/ratio"
)

// TestWholePoints: of each loop twice the area is twice the whole points within, and those on it less 2; so All, Area2 and Within tell of the same thing.
func TestWholePoints(t *testing.T) {
	s := source(88172645463325252)
	l := []api.Drawing{comb(), saw()}
	for range 60 {
		l = append(l, s.scattered(8))
	}
	for _, d := range l {
		for _, row := range All(d) {
			sum := -2
			for x := range 18 {
				for y := range 10 {
					sum += 1 + Within(d, row, point.At(x, y))
				}
			}
			if area := Area2(d, row); max(area, -area) != sum {
				t.Errorf("P10.2: %v: area %d, by whole points %d: %s", row, area, sum, show(d))
			}
		}
	}
}

// TestGoesRound: close beside each of a loop's sides one of left and right is within, the other one without; which one, the sign of its area tells.
func TestGoesRound(t *testing.T) {
	s := source(362436069362436069)
	for i := range 200 {
		d := s.scattered([]int{5, 12, 64}[i%3])
		for _, row := range All(d) {
			for j, v := range row {
				a, b := d.V[v], d.V[row[(j+1)%len(row)]]
				left, right := Within(d, row, closeBy(a, b, 1)), Within(d, row, closeBy(a, b, -1))
				if area := Area2(d, row); left != -right || left != area/max(area, -area) {
					t.Errorf("P10.2: %v behind %d: %d, %d, area %d: %s", row, v, left, right, area, show(d))
				}
			}
		}
	}
}

// closeBy tells a point beside the middle of the way from a to b, closer than any other side is, on its left (1) or right (-1).
func closeBy(a, b api.Vert, way int64) api.Point {
	const far = 1 << 30
	x, y := int64(a.X+b.X)*far, int64(a.Y+b.Y)*far
	return pt(x+way*int64(a.Y-b.Y), 2*far, y+way*int64(b.X-a.X), 2*far)
}

// TestDepthOdd: a loop lies in as many others as have any point close beside it within, on whichever side.
func TestDepthOdd(t *testing.T) {
	s := source(521288629521288629)
	for range 150 {
		d := s.scattered(9)
		l := All(d)
		for k, row := range l {
			for _, way := range []int64{1, -1} {
				p, n := closeBy(d.V[row[0]], d.V[row[1]], way), 0
				for _, other := range l {
					n += (1 + Within(d, other, p)) / 2
				}
				want := Depth(d, k) + (1+Within(d, row, p))/2
				must(t, n == want, "P10.2: loop %d: %d around it, not %d: %s", k, n, want, show(d))
			}
		}
	}
}

// mirrored changes X with what Side has more, or X and Y.
func mirrored(d api.Drawing, p api.Point, across bool) (api.Drawing, api.Point) {
	c := changed(d, func(d *api.Drawing) {
		for i, v := range d.V {
			d.V[i].X, d.V[i].Y = v.Y, v.X
			if across {
				d.V[i].X, d.V[i].Y = api.Side-v.X, v.Y
			}
		}
	})
	if across {
		x, _ := ratio.Sub(rat(api.Side, 1), p.X)
		return c, api.Point{X: x, Y: p.Y}
	}
	return c, api.Point{X: p.Y, Y: p.X}
}

// TestMirrored: in a mirror loops are the same, turn the other way, and have the same within.
func TestMirrored(t *testing.T) {
	s := source(123456789123456789)
	for i := range 300 {
		side := []int{5, 12, 64}[i%3]
		d, p := s.scattered(side), s.point(side)
		l := All(d)
		for _, across := range []bool{false, true} {
			c, q := mirrored(d, p, across)
			must(t, reflect.DeepEqual(All(c), l), "P10.1: loops in a mirror: %v, not %v: %s", All(c), l, show(d))
			for k, row := range l {
				must(t, Area2(c, row) == -Area2(d, row), "P10.1: area of %v in a mirror: %s", row, show(d))
				must(t, Within(c, row, q) == Within(d, row, p), "P10.1: %s within %v in a mirror: %s", spot(p), row, show(d))
				must(t, Depth(c, k) == Depth(d, k), "P10.1: depth of %d in a mirror: %s", k, show(d))
			}
		}
	}
}

// TestNothingKept: after a drawing was changed it is asked anew.
func TestNothingKept(t *testing.T) {
	d := drawn(square(0, 0, 9), square(2, 2, 3))
	in := point.At(1, 1)
	for range 2 {
		rows(t, "as it was", d, [][]int{{0, 1, 2, 3}, {4, 5, 6, 7}})
		deep(t, "as it was", d, 1, 1)
		area(t, "as it was", d, []int{0, 1, 2, 3}, 162)
		placed(t, "as it was", d, []int{0, 1, 2, 3}, in, 1)
		d.V[1].X = 65
		refused(t, "out of bounds", d)
		d.V[0], d.V[1], d.V[2], d.V[3] = api.Vert{X: 50, Y: 50}, api.Vert{X: 60, Y: 50}, api.Vert{X: 60, Y: 60}, api.Vert{X: 50, Y: 60}
		rows(t, "moved", d, [][]int{{0, 1, 2, 3}, {4, 5, 6, 7}})
		deep(t, "moved", d, 1, 0)
		area(t, "moved", d, []int{0, 1, 2, 3}, 200)
		placed(t, "moved", d, []int{0, 1, 2, 3}, in, -1)
		copy(d.V, drawn(square(0, 0, 9)).V)
	}
}

// TestNoHang: no answer hangs on holes' points and marks that may be.
func TestNoHang(t *testing.T) {
	s := source(987654321987654321)
	for range 100 {
		d := s.scattered(9)
		c := with(d, pt(1, 3, 191, 3), pt(100, 3, 100, 7))
		for i := range c.V {
			c.V[i].Mark = s.below(1000001)
		}
		l := All(d)
		must(t, reflect.DeepEqual(All(c), l), "P10.1: loops with holes' points: %v, not %v", All(c), l)
		p := s.point(9)
		for k, row := range l {
			must(t, Area2(c, row) == Area2(d, row) && Within(c, row, p) == Within(d, row, p) && Depth(c, k) == Depth(d, k), "P10.1: with holes' points: %s", show(c))
		}
	}
}

// TestAtOnce: calls at the same time, of one drawing too, don't touch one another.
func TestAtOnce(t *testing.T) {
	d := copied(drawn(square(0, 0, 9), square(2, 2, 3), []int{20, 20, 30, 20, 20, 30}))
	l, was := All(d), seen(d)
	kept := slices.Clone(l[1])
	var all sync.WaitGroup
	for n := range 8 {
		all.Go(func() {
			s := source(88172645463325252 + n)
			for range 20 {
				c := s.scattered(9)
				lawful(t, c)
				must(t, reflect.DeepEqual(All(d), l), "P10.2: at once: loops")
				must(t, Area2(d, l[1]) == 18 && Within(d, l[1], point.At(3, 3)) == 1 && Depth(d, 1) == 1, "P10.2: at once")
			}
		})
	}
	all.Wait()
	must(t, seen(d) == was && slices.Equal(kept, l[1]), "P10.2: calls at once changed what they were handed")
}

func BenchmarkLoop(b *testing.B) {
	d := with(comb(), pt(50, 1, 50, 1))
	row, p := All(d)[0], pt(5, 2, 13, 3)
	for name, does := range map[string]func(){
		"All":    func() { All(d) },
		"Area2":  func() { Area2(d, row) },
		"Within": func() { Within(d, row, p) },
		"Depth":  func() { Depth(d, 0) },
	} {
		b.Run(name, func(b *testing.B) {
			for b.Loop() {
				does()
			}
		})
	}
}
