package tri

import (
	"math/big"
	"testing"

	"parquet/api"
)

// checkPlace: which corner is the first makes no difference; of the same turned right there is no answer.
func checkPlace(t *testing.T, a, b, c, p api.Point, want int) {
	t.Helper()
	for _, l := range rounds(a, b, c) {
		if got, ok := Place(l[0], l[1], l[2], p); got != want || !ok {
			t.Errorf("P5.1: Place in %s of %s: %d, %v", where(l[:]...), where(p), got, ok)
		}
		if got, ok := Place(l[0], l[2], l[1], p); got != 0 || ok {
			t.Errorf("P5.1: Place in %s, turned right, of %s: %d, %v", where(l[:]...), where(p), got, ok)
		}
		if got, ok := Place(turned(l[0]), turned(l[2]), turned(l[1]), turned(p)); got != want || !ok {
			t.Errorf("P5.1: Place in %s, X and Y changed, of %s: %d, %v", where(l[:]...), where(p), got, ok)
		}
	}
}

func TestPlace(t *testing.T) {
	a, b, c := at(0, 0), at(6, 0), at(0, 6)
	rows := []struct {
		x, y string
		want int
	}{
		{"1", "1", 1},
		{"2", "2", 1},
		{"1/9", "1/9", 1},
		{"1/" + far, "1/" + far, 1}, // hardly within
		{"1/" + far, "5", 1},
		{"3", nearly + "/384307168202282325", 1},
		{"0", "0", 0}, // corners
		{"6", "0", 0},
		{"0", "6", 0},
		{"3", "3", 0}, // on sides
		{"3", "0", 0},
		{"0", "4", 0},
		{"1/9", "0", 0},
		{"0", "1/" + far, 0},
		{"1/2", "11/2", 0},
		{"-1/" + far, "3", -1}, // hardly without
		{"3", "-1/" + far, -1},
		{"3", far + "/384307168202282324", -1},
		{"-1", "0", -1}, // on a side's line, past its end
		{"7", "0", -1},
		{"0", "-1", -1},
		{"0", "7", -1},
		{"12", "-6", -1},
		{"-6", "12", -1},
		{far + "/192153584101141162", "0", -1}, // hardly past it
		{"0", "-1/" + far, -1},
		{"4", "3", -1}, // past one side
		{"1", "-1", -1},
		{"-1", "1", -1},
		{"-1", "-1", -1}, // past two
		{"9", "-1", -1},
		{"-1", "9", -1},
		{far, far, -1},
		{"-" + far, "-" + far, -1},
	}
	for _, r := range rows {
		checkPlace(t, a, b, c, pt(t, r.x, r.y), r.want)
	}
}

// TestPlaceOfNone: what doesn't turn left has no places, wherever p is.
func TestPlaceOfNone(t *testing.T) {
	rows := [][3]api.Point{
		{at(0, 0), at(0, 6), at(6, 0)}, // right
		{at(0, 0), at(3, 3), at(6, 6)}, // one line
		{at(0, 0), at(6, 6), at(3, 3)},
		{at(0, 0), at(6, 0), at(9, 0)},
		{at(0, 0), at(0, 0), at(6, 0)},                                 // two alike
		{at(1, 1), at(1, 1), at(1, 1)},                                 // all alike
		{pt(t, "-"+far, "-"+far), pt(t, far, far), pt(t, far, nearly)}, // hardly right
	}
	for _, r := range rows {
		for _, l := range rounds(r[0], r[1], r[2]) {
			for _, p := range append([]api.Point{at(1, 1), at(2, 1), at(-9, 4)}, l[:]...) {
				if got, ok := Place(l[0], l[1], l[2], p); got != 0 || ok {
					t.Errorf("P5.1: Place in %s of %s: %d, %v", where(l[:]...), where(p), got, ok)
				}
			}
		}
	}
}

// checkPlaced holds Place against math/big, and tells the kind: none, without, on, within.
func checkPlaced(t *testing.T, a, b, c, p api.Point) int {
	t.Helper()
	want, ok := bigPlace(a, b, c, p)
	if got, is := Place(a, b, c, p); got != want || is != ok {
		t.Fatalf("P5.1: Place in %s of %s: %d, %v", where(a, b, c), where(p), got, is)
	}
	if !ok {
		return 0
	}
	return want + 2
}

func TestPlaceGrid(t *testing.T) {
	var count [4]int
	for _, a := range grid() {
		for _, b := range grid() {
			for _, c := range grid() {
				for _, p := range grid() {
					count[checkPlaced(t, a, b, c, p)]++
				}
			}
		}
	}
	if min(count[0], count[1], count[2], count[3]) < 100 {
		t.Errorf("too few of some kind: %v", count)
	}
}

// TestPlaceMany: any points, and such as are told by shares of two sides: from past the one end to past the other.
func TestPlaceMany(t *testing.T) {
	s := source(362436069)
	var count [4]int
	for range 300 {
		a, b, c := s.point(8), s.point(8), s.point(8)
		if area := bigArea2(a, b, c); area.Sign() < 0 {
			b, c = c, b
		}
		u, v := big.NewRat(int64(s.next()%11)-1, 8), big.NewRat(int64(s.next()%11)-1, 8)
		for _, l := range rounds(a, b, c) {
			count[checkPlaced(t, l[0], l[1], l[2], bigAlong(a, b, c, u, v))]++
			count[checkPlaced(t, l[0], l[2], l[1], bigAlong(a, b, c, u, v))]++
		}
		checkPlaced(t, a, b, c, s.point(8))
		checkPlaced(t, s.point(60), s.point(60), s.point(60), s.point(60))
	}
	if min(count[0], count[1], count[2], count[3]) < 50 {
		t.Errorf("too few of some kind: %v", count)
	}
}

// TestPlaceRoom: of points with the longest numbers it is told where they are.
func TestPlaceRoom(t *testing.T) {
	l := primes(8)
	a, b, c, p := api.Point{X: l[0], Y: l[2]}, api.Point{X: l[1], Y: l[3]}, api.Point{X: l[5], Y: l[4]}, api.Point{X: l[6], Y: l[7]}
	checkPlaced(t, a, b, c, p)
	checkPlaced(t, a, c, b, p)
	checkPlace(t, pt(t, "-"+far, "-"+far), pt(t, far, "-"+far), pt(t, "0", far), p, 1)
	for _, x := range atLimit() {
		for _, y := range atLimit() {
			p := api.Point{X: x, Y: y}
			for _, l := range rounds(at(-1, -1), at(1, -1), at(0, 1)) {
				checkPlaced(t, l[0], l[1], l[2], p)
				checkPlaced(t, p, l[0], l[1], l[2])
				checkPlaced(t, l[0], p, l[1], l[2])
			}
		}
	}
}
