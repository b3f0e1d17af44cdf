package tri

import (
	"testing"

	"parquet/api"
	"parquet/ratio"
)

func TestAreaAndSides(t *testing.T) {
	rows := []struct {
		a, b, c api.Point
		area    string
		sides   [3]string
	}{
		{at(0, 0), at(1, 0), at(0, 1), "1", [3]string{"1", "2", "1"}},
		{at(0, 0), at(0, 1), at(1, 0), "-1", [3]string{"1", "2", "1"}}, // right
		{at(0, 0), at(4, 0), at(4, 1), "4", [3]string{"16", "1", "17"}},
		{at(4, 1), at(0, 0), at(4, 0), "4", [3]string{"17", "16", "1"}},
		{at(0, 0), at(4, 0), at(-1, 3), "12", [3]string{"16", "34", "10"}},
		{at(5, 5), at(9, 5), at(4, 8), "12", [3]string{"16", "34", "10"}}, // elsewhere
		{at(0, 0), at(1, 1), at(3, 3), "0", [3]string{"2", "8", "18"}},    // one line
		{at(3, 3), at(0, 0), at(1, 1), "0", [3]string{"18", "2", "8"}},
		{at(2, 7), at(2, 7), at(5, 3), "0", [3]string{"0", "25", "25"}}, // two alike
		{at(2, 7), at(5, 3), at(2, 7), "0", [3]string{"25", "25", "0"}},
		{at(5, 3), at(2, 7), at(2, 7), "0", [3]string{"25", "0", "25"}},
		{at(2, 7), at(2, 7), at(2, 7), "0", [3]string{"0", "0", "0"}}, // all alike
		{pt(t, "1/2", "1/3"), pt(t, "5/2", "-2/3"), pt(t, "3/4", "7/3"), "17/4", [3]string{"5", "193/16", "65/16"}},
		{at(0, 0), pt(t, far, "0"), pt(t, "0", far), "1329227995784915870597964051066650625", [3]string{"1329227995784915870597964051066650625", "2658455991569831741195928102133301250", "1329227995784915870597964051066650625"}},
		{at(0, 0), pt(t, "1/"+far, "0"), pt(t, "0", "1/"+far), "1/1329227995784915870597964051066650625", [3]string{"1/1329227995784915870597964051066650625", "2/1329227995784915870597964051066650625", "1/1329227995784915870597964051066650625"}},
	}
	for i, r := range rows {
		if got, ok := Area2(r.a, r.b, r.c); got != rat(t, r.area) || !ok {
			t.Errorf("P5.1: row %d: Area2 %s, %v", i, show(got), ok)
		}
		got, ok := Sides(r.a, r.b, r.c)
		for k, want := range r.sides {
			if got[k] != rat(t, want) || !ok {
				t.Errorf("P5.1: row %d: side %d: %s, %v", i, k, show(got[k]), ok)
			}
		}
	}
}

func checkReckoned(t *testing.T, a, b, c api.Point) {
	t.Helper()
	if got, ok := Area2(a, b, c); got != fromBig(bigArea2(a, b, c)) || !ok {
		t.Fatalf("P5.1: Area2 of %s: %s, %v", where(a, b, c), show(got), ok)
	}
	got, ok := Sides(a, b, c)
	want := [3]api.Rat{fromBig(fromTo(a, b).square()), fromBig(fromTo(b, c).square()), fromBig(fromTo(c, a).square())}
	if got != want || !ok {
		t.Fatalf("P5.1: Sides of %s: %s, %s, %s, %v", where(a, b, c), show(got[0]), show(got[1]), show(got[2]), ok)
	}
}

func TestAreaAndSidesMany(t *testing.T) {
	threes(func(a, b, c api.Point) { checkReckoned(t, a, b, c) })
}

// TestAreaRoom: of points with the longest numbers all is told.
func TestAreaRoom(t *testing.T) {
	l := primes(6)
	a, b, c := api.Point{X: l[0], Y: l[2]}, api.Point{X: l[1], Y: l[3]}, api.Point{X: l[5], Y: l[4]}
	if sides, _ := Sides(a, b, c); ratio.Safe(sides[0], 475) || ratio.Safe(sides[1], 475) || ratio.Safe(sides[2], 475) {
		t.Errorf("no test of room: %s", show(sides[0]))
	}
	for _, x := range rounds(a, b, c) {
		checkReckoned(t, x[0], x[1], x[2])
		checkReckoned(t, x[0], x[2], x[1])
	}
	for _, x := range atLimit() {
		for _, y := range atLimit() {
			checkReckoned(t, api.Point{X: x, Y: y}, a, b)
			checkReckoned(t, a, api.Point{X: x, Y: y}, api.Point{X: y, Y: x})
		}
	}
}
