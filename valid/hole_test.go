package valid

import (
	"testing"

	"parquet/api"
)

// tiny is as close to 0 as a point's numbers may be.
const tiny = 1<<60 - 1

// TestHoleBound: above 0 and below Side in X and Y, by however little, and at any place of the list.
func TestHoleBound(t *testing.T) {
	d := drawn(square(20, 20, 20))
	for _, r := range []struct {
		n, d int64
		want api.Errno
	}{
		{0, 1, api.ErrHole}, {64, 1, api.ErrHole}, {-1, 1, api.ErrHole}, {65, 1, api.ErrHole}, {-5, 1, api.ErrHole}, {100, 1, api.ErrHole},
		{1, tiny, api.OK}, {-1, tiny, api.ErrHole}, {1, 1000, api.OK}, {-1, 1000, api.ErrHole}, {1, 1, api.OK}, {63, 1, api.OK},
		{1<<60 - 1, 1 << 54, api.OK}, {1<<60 - 1, 1<<54 - 1, api.ErrHole}, {63999, 1000, api.OK}, {64001, 1000, api.ErrHole}, {127, 2, api.OK}, {129, 2, api.ErrHole},
		{tiny, 1, api.ErrHole}, {-tiny, 1, api.ErrHole}, {tiny, 2, api.ErrHole}, {41, 3, api.OK},
	} {
		good := pt(50, 1, 7, 2)
		checked(t, "in X", with(d, pt(r.n, r.d, 7, 2)), r.want)
		checked(t, "in Y", with(d, pt(7, 2, r.n, r.d)), r.want)
		checked(t, "in both", with(d, pt(r.n, r.d, r.n, r.d)), r.want)
		for at := range api.MaxHoles {
			h := []api.Point{good, good, good, good}
			h[at] = pt(r.n, r.d, 50, 1)
			checked(t, "among others", with(d, h...), r.want)
		}
	}
}

// TestHoleOnSegment: on each segment and each vertex, and right beside.
func TestHoleOnSegment(t *testing.T) {
	d := drawn([]int{10, 10, 40, 20, 40, 50, 10, 50}, []int{20, 20, 24, 20, 20, 27})
	for k, s := range d.S {
		a, b := d.V[s.A], d.V[s.B]
		for share := range int64(8) { // the ends too
			x, y := int64(a.X)*(7-share)+int64(b.X)*share, int64(a.Y)*(7-share)+int64(b.Y)*share
			checked(t, "on a segment", with(d, pt(x, 7, y, 7)), api.ErrHole)
			checked(t, "on a segment, behind others", with(d, pt(1, 2, 1, 3), pt(30, 1, 40, 1), pt(x, 7, y, 7)), api.ErrHole)
			checked(t, "on a segment, ahead of others", with(d, pt(x, 7, y, 7), pt(1, 2, 1, 3)), api.ErrHole)
		}
		for _, aside := range []int64{1, -1} { // of the segment's middle
			x, y := int64(a.X+b.X), int64(a.Y+b.Y)
			const far = 1 << 40
			checked(t, "beside a segment", with(d, pt(x*far+2*aside*int64(a.Y-b.Y), 2*far, y*far+2*aside*int64(b.X-a.X), 2*far)), api.OK)
		}
		if k > 0 && a.X == b.X {
			checked(t, "just left of an upright one", with(d, pt(int64(a.X)<<50-1, 1<<50, int64(a.Y+b.Y), 2)), api.OK)
		}
	}
	for _, v := range d.V {
		x, y := int64(v.X), int64(v.Y)
		checked(t, "in a vertex", with(d, pt(x, 1, y, 1)), api.ErrHole)
		checked(t, "left of a vertex", with(d, pt(x*1000-1, 1000, y*1000-1, 1000)), api.OK)
	}
}

// TestHoleAnywhere: within a loop, within none, twice the same: all that may be.
func TestHoleAnywhere(t *testing.T) {
	d := drawn(square(10, 10, 30), square(20, 20, 10))
	in, between, out := pt(51, 2, 76, 3), pt(15, 1, 15, 1), pt(1, 3, 190, 3)
	for _, l := range [][]api.Point{nil, {}, {in}, {between}, {out}, {in, between, out}, {in, in, in, in}, {out, out}, {between, in, between, out}} {
		checked(t, "anywhere", with(d, l...), api.OK)
	}
	checked(t, "in line with a segment", with(d, pt(50, 1, 10, 1), pt(5, 1, 40, 1), pt(10, 1, 9, 1), pt(30, 1, 63, 2)), api.OK)
	checked(t, "in line with a slope", with(drawn([]int{10, 10, 20, 15, 10, 20}), pt(22, 1, 16, 1), pt(8, 1, 9, 1)), api.OK)
}

// TestHoleAtTheRim: the greatest square's rim is out of bounds, whether a segment lies there or not.
func TestHoleAtTheRim(t *testing.T) {
	for _, d := range []api.Drawing{drawn(square(0, 0, 64)), drawn(square(20, 20, 9))} {
		for _, p := range []api.Point{pt(0, 1, 0, 1), pt(64, 1, 0, 1), pt(64, 1, 64, 1), pt(0, 1, 64, 1), pt(0, 1, 9, 2), pt(9, 2, 0, 1), pt(64, 1, 9, 2), pt(9, 2, 64, 1)} {
			checked(t, "at the rim", with(d, p), api.ErrHole)
		}
		checked(t, "just within", with(d, pt(1, tiny, 1, tiny), pt(64*1000-1, 1000, 64*999-1, 999)), api.OK)
	}
}
