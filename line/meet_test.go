package line

import (
	"math/big"
	"testing"

	"parquet/api"
)

func checkOn(t *testing.T, a, b, p api.Point, want bool) {
	t.Helper()
	for _, l := range [][2]api.Point{{a, b}, {b, a}} {
		if got, ok := On(l[0], l[1], p); got != want || !ok {
			t.Errorf("P4.1: On of %s: %v, %v", place(l[0], l[1], p), got, ok)
		}
		if got, ok := On(turned(l[0]), turned(l[1]), turned(p)); got != want || !ok {
			t.Errorf("P4.1: On of %s, turned: %v, %v", place(l[0], l[1], p), got, ok)
		}
	}
}

// checkMeet: which end, which segment is the first makes no difference.
func checkMeet(t *testing.T, a, b, c, d api.Point, want int) {
	t.Helper()
	for _, l := range [][4]api.Point{{a, b, c, d}, {b, a, c, d}, {a, b, d, c}, {b, a, d, c}, {c, d, a, b}, {d, c, a, b}, {c, d, b, a}, {d, c, b, a}} {
		if got, ok := Meet(l[0], l[1], l[2], l[3]); got != want || !ok {
			t.Errorf("P4.1: Meet of %s: %d, %v", place(l[:]...), got, ok)
		}
	}
	if got, ok := Meet(turned(a), turned(b), turned(c), turned(d)); got != want || !ok {
		t.Errorf("P4.1: Meet of %s, turned: %d, %v", place(a, b, c, d), got, ok)
	}
}

func TestOn(t *testing.T) {
	far := "1152921504606846975" // the greatest of 60 bits
	rows := []struct {
		a, b, p api.Point
		want    bool
	}{
		{at(0, 0), at(2, 1), at(0, 0), true},
		{at(0, 0), at(2, 1), at(2, 1), true},
		{at(0, 0), at(2, 1), pt(t, "1", "1/2"), true},
		{at(0, 0), at(2, 1), pt(t, "2/3", "1/3"), true},
		{at(0, 0), at(2, 1), pt(t, "2/3", "1/4"), false},
		{at(0, 0), at(2, 1), at(4, 2), false},
		{at(0, 0), at(2, 1), at(-2, -1), false},
		{at(0, 0), at(2, 1), at(2, 0), false},
		{at(0, 0), at(2, 1), at(0, 1), false},
		{at(0, 0), at(2, 1), pt(t, "2000000001/1000000000", "2000000001/2000000000"), false}, // just past an end, in line
		{at(0, 0), at(2, 1), pt(t, "1999999999/1000000000", "1999999999/2000000000"), true},  // just ahead of it
		{at(0, 0), at(2, 1), pt(t, "1", "576460752303423488/1152921504606846975"), false},    // just beside it
		{at(-3, 2), at(5, -2), at(1, 0), true},
		{at(-3, 2), at(5, -2), at(-1, 0), false},
		{at(3, 0), at(3, 5), at(3, 0), true},
		{at(3, 0), at(3, 5), at(3, 5), true},
		{at(3, 0), at(3, 5), pt(t, "3", "7/2"), true},
		{at(3, 0), at(3, 5), at(3, 6), false},
		{at(3, 0), at(3, 5), at(3, -1), false},
		{at(3, 0), at(3, 5), pt(t, "3", "-1/"+far), false},
		{at(3, 0), at(3, 5), pt(t, "3", "1/"+far), true},
		{at(3, 0), at(3, 5), at(4, 2), false},
		{at(3, 3), at(3, 3), at(3, 3), true},
		{at(3, 3), at(3, 3), at(3, 4), false},
		{at(3, 3), at(3, 3), at(4, 3), false},
		{at(3, 3), at(3, 3), at(2, 2), false},
		{pt(t, "1/3", "-1/7"), pt(t, "1/3", "-1/7"), pt(t, "1/3", "-1/7"), true},
		{pt(t, "1/3", "-1/7"), pt(t, "1/3", "-1/7"), pt(t, "1/3", "-1/8"), false},
		{pt(t, "-"+far, "-"+far), pt(t, far, far), at(0, 0), true},
		{pt(t, "-"+far, "-"+far), pt(t, far, far), pt(t, "1/"+far, "1/"+far), true},
		{pt(t, "-"+far, "-"+far), pt(t, far, far), pt(t, "1/"+far, "1/1152921504606846974"), false},
		{pt(t, "-"+far, "-"+far), pt(t, far, far), pt(t, far, "-"+far), false},
	}
	for _, r := range rows {
		checkOn(t, r.a, r.b, r.p, r.want)
	}
}

func TestOnGrid(t *testing.T) {
	for _, a := range grid() {
		for _, b := range grid() {
			for _, p := range grid() {
				if got, ok := On(a, b, p); got != bigOn(a, b, p) || !ok {
					t.Fatalf("P4.1: On of %s: %v, %v", place(a, b, p), got, ok)
				}
			}
		}
	}
}

// along tells the point at a share of the way from a to b.
func along(a, b api.Point, share *big.Rat) api.Point {
	v := fromTo(a, b)
	x, y := new(big.Rat).Mul(v.x, share), new(big.Rat).Mul(v.y, share)
	return api.Point{X: fromBig(x.Add(x, toBig(a.X))), Y: fromBig(y.Add(y, toBig(a.Y)))}
}

// TestOnMany: points made to lie on a segment, past its ends, and beside it by little.
func TestOnMany(t *testing.T) {
	s := source(88172645463325252)
	for range 300 {
		a, b := s.point(12), s.point(12)
		for _, share := range []*big.Rat{big.NewRat(0, 1), big.NewRat(1, 1), big.NewRat(int64(s.next()%64), 63), big.NewRat(-1, 63), big.NewRat(64, 63)} {
			p := along(a, b, share)
			checkOn(t, a, b, p, a == b || isShare(share))
			p.Y = fromBig(new(big.Rat).Add(toBig(p.Y), big.NewRat(1, 1<<20)))
			checkOn(t, a, b, p, bigOn(a, b, p))
		}
	}
	for range 1000 {
		a, b, p := s.point(60), s.point(60), s.point(60)
		checkOn(t, a, b, p, bigOn(a, b, p))
		checkOn(t, a, b, a, true)
		checkOn(t, a, a, p, a == p)
		checkOn(t, a, a, a, true)
	}
}

func TestMeet(t *testing.T) {
	third := pt(t, "2/3", "2/3")
	rows := []struct {
		a, b, c, d api.Point
		want       int
	}{
		{at(0, 0), at(2, 2), at(0, 2), at(2, 0), 2},  // crossing
		{at(0, 0), at(9, 1), at(4, 0), at(5, 1), 2},  // crossing
		{at(0, 0), at(4, 0), at(1, -1), at(1, 1), 2}, // level and upright, crossing
		{at(0, 0), at(4, 0), at(1, 1), at(1, 2), 0},  // one ends short of the other
		{at(0, 0), at(4, 0), pt(t, "1", "1/1152921504606846975"), at(1, 2), 0},
		{at(0, 0), at(4, 0), at(1, 0), at(1, 2), 2},  // an end of one alone
		{at(0, 0), at(4, 0), at(4, 0), at(4, 2), 1},  // a corner
		{at(0, 0), at(4, 0), at(4, 0), at(0, 2), 1},  // a sharp one
		{at(0, 0), at(4, 0), at(5, 0), at(5, 2), 0},  // just past
		{at(0, 0), at(4, 0), at(5, -1), at(5, 1), 0}, // past the end of its line
		{at(0, 0), at(2, 2), at(3, 0), at(0, 9), 0},  // the line, not the segment, is crossed
		{at(0, 0), at(2, 2), at(2, 2), at(5, 0), 1},
		{at(0, 0), at(2, 2), at(1, 1), at(5, 0), 2},
		{at(0, 0), at(2, 2), third, at(5, 0), 2},
		{at(0, 0), at(2, 2), at(3, 3), at(5, 5), 0}, // in line, apart
		{at(0, 0), at(2, 2), at(2, 2), at(5, 5), 1}, // in line, one end
		{at(0, 0), at(3, 3), at(2, 2), at(5, 5), 2}, // in line, a stretch
		{at(0, 0), at(3, 3), at(1, 1), at(2, 2), 2}, // one in the other
		{at(0, 0), at(3, 3), at(0, 0), third, 2},    // likewise, from an end on
		{at(0, 0), at(3, 3), at(0, 0), at(3, 3), 2}, // the same
		{at(0, 0), at(2, 0), at(0, 1), at(2, 1), 0}, // side by side
		{at(0, 0), at(2, 1), at(1, 1), at(3, 2), 0}, // likewise, their boxes meet
		{at(0, 0), at(4, 0), at(1, 0), at(3, 0), 2}, // level, a stretch
		{at(0, 0), at(4, 0), at(4, 0), at(7, 0), 1}, // level, an end
		{at(0, 0), at(4, 0), pt(t, "1152921504606846975/288230376151711743", "0"), at(7, 0), 0},
		{at(1, 1), at(1, 1), at(0, 0), at(2, 2), 2}, // one point, within
		{at(1, 1), at(1, 1), at(1, 1), at(2, 2), 1}, // at an end
		{at(1, 1), at(1, 1), at(2, 2), at(3, 3), 0}, // in line
		{at(1, 1), at(1, 1), at(0, 0), at(2, 1), 0}, // beside it
		{at(1, 1), at(1, 1), at(1, 1), at(1, 1), 1}, // both the same point
		{at(1, 1), at(1, 1), at(2, 1), at(2, 1), 0}, // two points
	}
	for _, r := range rows {
		checkMeet(t, r.a, r.b, r.c, r.d, r.want)
	}
}

func TestMeetGrid(t *testing.T) {
	var count [3]int
	for _, a := range grid() {
		for _, b := range grid() {
			for _, c := range grid() {
				for _, d := range grid() {
					want := bigMeet(a, b, c, d)
					if got, ok := Meet(a, b, c, d); got != want || !ok {
						t.Fatalf("P4.1: Meet of %s: %d, %v", place(a, b, c, d), got, ok)
					}
					count[want]++
				}
			}
		}
	}
	if min(count[0], count[1], count[2]) < 1000 {
		t.Errorf("too few of some kind: %v", count)
	}
}

// TestMeetMany: any segments, and such as begin on the other one, or go along it.
func TestMeetMany(t *testing.T) {
	s := source(362436069)
	check := func(a, b, c, d api.Point) {
		t.Helper()
		checkMeet(t, a, b, c, d, bigMeet(a, b, c, d))
	}
	for range 150 {
		a, b, c, d := s.point(10), s.point(10), s.point(10), s.point(10)
		p, q := along(a, b, big.NewRat(int64(s.next()%64)-1, 62)), along(a, b, big.NewRat(int64(s.next()%6)-1, 3))
		check(a, b, c, d)
		check(a, b, p, c)
		check(a, b, p, b)
		check(a, b, p, q)
		check(p, b, c, q)
		check(a, b, p, p)
	}
	for range 150 {
		a, b, c, d := s.point(60), s.point(60), s.point(60), s.point(60)
		check(a, b, c, d)
		check(a, b, b, c)
		check(a, b, a, b)
	}
}

// TestLongest: of points with the longest numbers all is told.
func TestLongest(t *testing.T) {
	l := primes(8)
	a, b, c, d := api.Point{X: l[0], Y: l[2]}, api.Point{X: l[1], Y: l[3]}, api.Point{X: l[5], Y: l[4]}, api.Point{X: l[6], Y: l[7]}
	checkMeet(t, a, b, c, d, bigMeet(a, b, c, d))
	checkMeet(t, a, b, b, d, 1)
	checkMeet(t, a, c, b, d, bigMeet(a, c, b, d))
	checkOn(t, a, b, c, false)
	checkOn(t, a, b, b, true)
	for _, x := range atLimit() {
		for _, y := range atLimit() {
			p := api.Point{X: x, Y: y}
			checkOn(t, a, b, p, bigOn(a, b, p))
			checkOn(t, a, p, p, true)
			checkMeet(t, a, p, at(0, 0), b, bigMeet(a, p, at(0, 0), b))
		}
	}
}

// TestNoPoints hands over a point that isn't any in each place, beside others that would do.
func TestNoPoints(t *testing.T) {
	good, other := at(0, 0), pt(t, "1/2", "-7/3")
	for _, p := range bad() {
		for _, l := range [][3]api.Point{{p, good, other}, {good, p, other}, {good, other, p}, {p, p, p}, {good, p, good}, {good, good, p}, {p, good, good}, {p, good, p}, {good, p, p}, {p, p, good}} {
			if got, ok := On(l[0], l[1], l[2]); got || ok {
				t.Errorf("P4.1: On of %s: %v, %v", place(l[:]...), got, ok)
			}
		}
		for _, l := range [][4]api.Point{{p, good, good, other}, {good, p, other, good}, {good, other, p, good}, {good, other, other, p}, {p, p, p, p}, {good, p, good, p}, {p, good, p, good}, {good, other, p, p}, {p, p, other, good}, {p, good, good, good}, {good, good, good, p}} {
			if got, ok := Meet(l[0], l[1], l[2], l[3]); got != 0 || ok {
				t.Errorf("P4.1: Meet of %s: %d, %v", place(l[:]...), got, ok)
			}
		}
	}
}
