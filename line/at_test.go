package line

import (
	"math/big"
	"testing"

	"parquet/api"
	"parquet/ratio"
)

// checkAt asks YAt, and XAt of the same turned, from either end.
func checkAt(t *testing.T, a, b api.Point, x, want api.Rat, ok bool) {
	t.Helper()
	for _, l := range [][2]api.Point{{a, b}, {b, a}} {
		if got, is := YAt(l[0], l[1], x); got != want || is != ok {
			t.Errorf("P4.2: YAt of %s at %s: %s, %v", place(l[:]...), show(x), show(got), is)
		}
		if got, is := XAt(turned(l[0]), turned(l[1]), x); got != want || is != ok {
			t.Errorf("P4.2: XAt of %s, turned, at %s: %s, %v", place(l[:]...), show(x), show(got), is)
		}
	}
}

func TestAt(t *testing.T) {
	far, long := "1152921504606846975", "1152921504606846974"
	rows := []struct {
		a, b    api.Point
		x, want string
	}{ // no text: none
		{at(0, 0), at(2, 1), "1", "1/2"},
		{at(0, 0), at(2, 1), "0", "0"},
		{at(0, 0), at(2, 1), "2", "1"},
		{at(0, 0), at(2, 1), "1/1000", "1/2000"},
		{at(0, 0), at(2, 1), "5/2", ""},
		{at(0, 0), at(2, 1), "-1/9", ""},
		{at(0, 0), at(2, 1), "-2", ""},
		{at(0, 0), at(2, 1), "-1/" + far, ""}, // just past an end
		{at(0, 0), at(2, 1), "1/" + far, "1/2305843009213693950"},
		{at(0, 0), at(2, 1), "1152921504606846975/576460752303423487", ""},
		{at(0, 0), at(2, 1), "1152921504606846975/576460752303423488", "1152921504606846975/1152921504606846976"},
		{at(1, 5), at(8, 2), "3/2", "67/14"},
		{at(-3, 2), at(5, -2), "1", "0"},
		{at(-3, 2), at(5, -2), "-2", "3/2"},
		{at(0, 4), at(9, 4), "7/3", "4"}, // level
		{at(0, 4), at(9, 4), "9", "4"},
		{at(0, 4), at(9, 4), "10", ""},
		{at(3, 0), at(3, 9), "3", ""}, // upright
		{at(3, 0), at(3, 9), "4", ""},
		{at(3, 0), at(3, 9), "0", ""},
		{at(3, 3), at(3, 3), "3", ""}, // one point
		{at(3, 3), at(3, 3), "2", ""},
		{at(0, 0), at(0, 0), "0", ""},
		{pt(t, "1/2", "1/3"), pt(t, "5/2", "-2/3"), "1", "1/12"},
		{pt(t, "1/2", "1/3"), pt(t, "5/2", "-2/3"), "1/2", "1/3"},
		{pt(t, "1/2", "1/3"), pt(t, "5/2", "-2/3"), "1/3", ""},
		{pt(t, "-"+far, "-"+far), pt(t, far, far), "1/7", "1/7"},
		{pt(t, "-"+far, "-"+far), pt(t, far, far), far, far},
		{pt(t, "-"+long, "-"+far), pt(t, far, far), "-" + far, ""},
		{pt(t, "1/"+far, "3"), pt(t, "1/"+long, "5"), "1/" + long, "5"}, // ends that are hardly apart
		{pt(t, "1/"+far, "3"), pt(t, "1/"+long, "5"), "1/" + far, "3"},
		{pt(t, "1/"+far, "3"), pt(t, "1/"+long, "5"), "1/1152921504606846973", ""},
		{pt(t, "1/"+far, "3"), pt(t, "1/"+long, "5"), "0", ""},
	}
	for _, r := range rows {
		want := api.Rat{}
		if r.want != "" {
			want = rat(t, r.want)
		}
		checkAt(t, r.a, r.b, rat(t, r.x), want, r.want != "")
	}
}

func TestAtGrid(t *testing.T) {
	for _, a := range grid() {
		for _, b := range grid() {
			for n := int64(-5); n <= 10; n++ { // from past one end to past the other
				x := fromBig(big.NewRat(n, 8))
				want, ok := bigYAt(a, b, x)
				checkAt(t, a, b, x, want, ok)
			}
		}
	}
}

func TestAtMany(t *testing.T) {
	s := source(521288629)
	told := 0
	check := func(a, b api.Point, x api.Rat) {
		t.Helper()
		want, ok := bigYAt(a, b, x)
		checkAt(t, a, b, x, want, ok)
		if ok {
			told++
		}
	}
	for range 600 {
		a, b, x := s.point(8), s.point(8), s.fraction(8)
		check(a, b, x)
		a, b, x = s.point(60), s.point(60), s.fraction(60)
		check(a, b, x)
		check(a, b, a.X)
		check(a, a, a.X)
		check(a, api.Point{X: a.X, Y: b.Y}, a.X)
		check(a, api.Point{X: b.X, Y: a.Y}, x)
	}
	if told < 1000 {
		t.Errorf("only %d have an answer", told)
	}
}

// TestAtRoom: numbers of 60 bits are told, even if what comes of them is far longer.
func TestAtRoom(t *testing.T) {
	l := primes(5)
	a, b, x := api.Point{X: l[1], Y: l[3]}, api.Point{X: l[0], Y: l[2]}, l[4]
	x.N = power(58)
	want, ok := bigYAt(a, b, x)
	if !ok || ratio.Safe(want, 295) {
		t.Fatalf("no test of room: %s, %v", show(want), ok)
	}
	checkAt(t, a, b, x, want, true)
	for _, x := range atLimit() {
		p, q := api.Point{X: rat(t, "-1152921504606846975"), Y: l[2]}, api.Point{X: rat(t, "1152921504606846975"), Y: l[3]}
		want, ok := bigYAt(p, q, x)
		checkAt(t, p, q, x, want, ok)
		if !ok {
			t.Errorf("P4.2: none at %s", show(x))
		}
	}
}

// TestAtWrong hands over what isn't a point in each place, and numbers that aren't Safe, even if they would be between the ends.
func TestAtWrong(t *testing.T) {
	far := rat(t, "1152921504606846975")
	low, high := api.Point{X: rat(t, "-1152921504606846975"), Y: far}, api.Point{X: far, Y: raw(1, 3)}
	for _, x := range append(wrong(), pastLimit()...) {
		checkAt(t, low, high, x, api.Rat{}, false)
		checkAt(t, at(0, 0), at(2, 1), x, api.Rat{}, false)
		checkAt(t, at(0, 0), at(0, 0), x, api.Rat{}, false)
	}
	for _, p := range bad() {
		for _, x := range []api.Rat{raw(0, 1), raw(1, 2), p.X, p.Y} {
			checkAt(t, p, at(2, 1), x, api.Rat{}, false)
			checkAt(t, p, low, x, api.Rat{}, false)
			checkAt(t, p, high, x, api.Rat{}, false)
			checkAt(t, p, p, x, api.Rat{}, false)
		}
	}
}
