package point

import (
	"math"
	"math/big"
	"testing"

	"parquet/api"
)

func TestAt(t *testing.T) {
	ints := []int{0, 1, -1, 2, -3, 64, 1 << 32, -(1 << 32), 1<<60 - 1, 1 - 1<<60, 1 << 60, -(1 << 60), math.MaxInt, -math.MaxInt, math.MinInt}
	short := func(n int) bool { return n < 1<<60 && n > -(1<<60) }
	for _, x := range ints {
		for _, y := range ints {
			want := api.Point{X: fromBig(big.NewRat(int64(x), 1)), Y: fromBig(big.NewRat(int64(y), 1))}
			if p := At(x, y); p != want || Is(p) != (short(x) && short(y)) {
				t.Errorf("P3.1: At(%d, %d): %s, Is %v", x, y, place(p), Is(p))
			}
		}
	}
}

func TestIs(t *testing.T) {
	good := raw(-2, 3)
	for _, a := range append(atLimit(), raw(0, 1), raw(1, 1), raw(-1, 2), raw(64, 63)) {
		for _, p := range []api.Point{{X: a, Y: good}, {X: good, Y: a}, {X: a, Y: a}} {
			if !Is(p) {
				t.Errorf("P3.1: %s isn't Is", place(p))
			}
		}
	}
	s := source(362436069)
	for range 1000 {
		if p := s.point(); !Is(p) {
			t.Fatalf("P3.1: %s isn't Is", place(p))
		}
	}
	for _, p := range append(bad(), api.Point{}) {
		if Is(p) {
			t.Errorf("P3.1: %s is Is", place(p))
		}
	}
}

func TestCmp(t *testing.T) {
	l := []api.Point{
		pt(t, "-1152921504606846975", "0"), pt(t, "-2", "9"), pt(t, "-1/2", "-1"), pt(t, "-1/2", "-1/3"), pt(t, "-1/2", "1/3"), pt(t, "-1/3", "-5"), pt(t, "0", "-1/1152921504606846975"), pt(t, "0", "0"), pt(t, "0", "1/1152921504606846975"),
		pt(t, "1/1152921504606846975", "0"), pt(t, "1/1152921504606846974", "0"), pt(t, "1/3", "7"), pt(t, "1/2", "-7"), pt(t, "1", "1/3"), pt(t, "1", "1/2"), pt(t, "1152921504606846975", "-1152921504606846975"), pt(t, "1152921504606846975", "1152921504606846975"),
	}
	for i, a := range l {
		for j, b := range l {
			if got, ok := Cmp(a, b); got != min(max(i-j, -1), 1) || !ok {
				t.Errorf("P3.1: Cmp(%s, %s): %d, %v", place(a), place(b), got, ok)
			}
		}
	}
}

func TestCmpMany(t *testing.T) {
	s := source(521288629)
	check := func(a, b api.Point) {
		t.Helper()
		want := toBig(a.X).Cmp(toBig(b.X))
		if want == 0 {
			want = toBig(a.Y).Cmp(toBig(b.Y))
		}
		if got, ok := Cmp(a, b); got != want || !ok {
			t.Fatalf("P3.1: Cmp(%s, %s): %d, %v", place(a), place(b), got, ok)
		}
	}
	for range 2000 {
		a, b := s.point(), s.point()
		check(a, b)
		check(a, a)
		check(a, api.Point{X: a.X, Y: b.Y})
		check(a, api.Point{X: b.X, Y: a.Y})
	}
}

// TestNotIs hands each call a point that isn't Is in each place, beside others that would do.
func TestNotIs(t *testing.T) {
	good, other := At(0, 0), pt(t, "1/2", "-7/3")
	none := func(name string, p api.Point, ok, zero bool) {
		t.Helper()
		if ok || !zero {
			t.Errorf("P3.1: %s with %s: %v, zero: %v", name, place(p), ok, zero)
		}
	}
	for _, p := range append(bad(), api.Point{}) {
		for _, l := range [][2]api.Point{{p, good}, {good, p}, {p, p}, {other, p}, {p, other}} {
			n, ok := Cmp(l[0], l[1])
			none("Cmp", p, ok, n == 0)
			x, ok := Far(l[0], l[1])
			none("Far", p, ok, x == (api.Rat{}))
		}
		for _, l := range [][3]api.Point{{p, good, other}, {good, p, other}, {good, other, p}, {p, p, p}, {good, p, good}, {good, good, p}, {p, good, good}} {
			x, ok := Cross(l[0], l[1], l[2])
			none("Cross", p, ok, x == (api.Rat{}))
			x, ok = Dot(l[0], l[1], l[2])
			none("Dot", p, ok, x == (api.Rat{}))
			n, ok := Turn(l[0], l[1], l[2])
			none("Turn", p, ok, n == 0)
		}
		for _, l := range [][]api.Point{{p}, {p, good}, {good, p}, {p, good, other}, {good, other, p}, {p, p, p, p}, {good, good, good, p}, {p, good, good, good}, {good, p, other, good}, {good, good, good, good, p}} {
			m, ok := Mid(l...)
			none("Mid", p, ok, m == (api.Point{}))
		}
	}
}
