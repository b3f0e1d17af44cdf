package tri

import (
	"testing"

	"parquet/api"
)

// checkNone: nothing is told of three points of which one isn't any.
func checkNone(t *testing.T, a, b, c api.Point) {
	t.Helper()
	if area, ok := Area2(a, b, c); area != (api.Rat{}) || ok {
		t.Errorf("P5.1: Area2 of %s: %s, %v", where(a, b, c), show(area), ok)
	}
	if sides, ok := Sides(a, b, c); sides != [3]api.Rat{} || ok {
		t.Errorf("P5.1: Sides of %s: %s, %s, %s, %v", where(a, b, c), show(sides[0]), show(sides[1]), show(sides[2]), ok)
	}
	if tan, sharp, ok := Sharp(a, b, c); tan != (api.Rat{}) || sharp || ok {
		t.Errorf("P5.2: Sharp of %s: %s, %v, %v", where(a, b, c), show(tan), sharp, ok)
	}
	if good, ok := Good(a, b, c); good || ok {
		t.Errorf("P5.2: Good of %s: %v, %v", where(a, b, c), good, ok)
	}
	checkNoPlace(t, a, b, c, at(0, 0))
}

func checkNoPlace(t *testing.T, a, b, c, p api.Point) {
	t.Helper()
	if n, ok := Place(a, b, c, p); n != 0 || ok {
		t.Errorf("P5.1: Place in %s of %s: %d, %v", where(a, b, c), where(p), n, ok)
	}
}

// TestNoPoints hands over a point that isn't any in each place, beside others that would do.
func TestNoPoints(t *testing.T) {
	low, high := at(-3, -3), pt(t, "1/2", "-7/3")
	for _, p := range bad() {
		for _, l := range [][3]api.Point{{p, low, high}, {low, p, high}, {low, high, p}, {low, low, p}, {low, p, low}, {p, low, low}, {p, p, low}, {p, low, p}, {low, p, p}, {p, p, p}} {
			checkNone(t, l[0], l[1], l[2])
			checkNoPlace(t, l[0], l[1], l[2], p)
		}
		checkNoPlace(t, at(0, 0), at(1, 0), at(0, 1), p) // it turns left
		checkNoPlace(t, pt(t, "-"+far, "-"+far), pt(t, far, "-"+far), pt(t, "0", far), p)
		checkNoPlace(t, at(0, 0), at(0, 1), at(1, 0), p)
		checkNoPlace(t, at(0, 0), at(0, 0), at(0, 0), p)
	}
}

// TestLimit: a bit more than may be, and there is no answer; with just as many there is.
func TestLimit(t *testing.T) {
	one, two := at(1, 0), at(0, 1)
	for _, x := range atLimit() {
		for _, p := range []api.Point{{X: x, Y: raw(-1, 2)}, {X: raw(-1, 2), Y: x}, {X: x, Y: x}} {
			for _, l := range rounds(p, one, two) {
				_, ok := Area2(l[0], l[1], l[2])
				_, is := Sides(l[0], l[1], l[2])
				_, _, in := Sharp(l[0], l[1], l[2])
				_, ni := Good(l[0], l[1], l[2])
				_, may := Place(at(0, 0), one, two, p)
				if !ok || !is || !in || !ni || !may {
					t.Errorf("P5.1: of %s: %v, %v, %v, %v, %v", where(l[:]...), ok, is, in, ni, may)
				}
			}
		}
	}
	for _, x := range pastLimit() {
		for _, p := range []api.Point{{X: x, Y: raw(-1, 2)}, {X: raw(-1, 2), Y: x}, {X: x, Y: x}} {
			for _, l := range rounds(p, one, two) {
				checkNone(t, l[0], l[1], l[2])
			}
			checkNoPlace(t, at(0, 0), one, two, p)
		}
	}
}
