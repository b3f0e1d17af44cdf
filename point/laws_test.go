package point

import (
	"testing"

	"parquet/api"
	"parquet/ratio"
)

func must[T any](t *testing.T) func(x T, ok bool) T {
	return func(x T, ok bool) T {
		t.Helper()
		if !ok {
			t.Fatal("P3.3: no answer")
		}
		return x
	}
}

func TestExample(t *testing.T) {
	if got, ok := Turn(At(0, 0), At(1, 0), At(0, 1)); got != 1 || !ok {
		t.Errorf("P3.3: Turn of (0, 0), (1, 0), (0, 1): %d, %v", got, ok)
	}
}

// TestSides: whatever lies above a level line is on the left of one who goes east, and on the right of one who goes west.
func TestSides(t *testing.T) {
	is := must[int](t)
	west, east := pt(t, "-1/3", "1/7"), pt(t, "1152921504606846975", "1/7")
	rows := []struct {
		y    string
		side int
	}{{"1/6", 1}, {"1/1152921504606846975", -1}, {"1/7", 0}, {"164703072086692425/1152921504606846974", 1}, {"164703072086692424/1152921504606846975", -1}, {"-9", -1}, {"9", 1}}
	for _, r := range rows {
		for _, x := range []string{"-1152921504606846975", "-1/3", "0", "1/1152921504606846975", "5", "1152921504606846975"} {
			p := pt(t, x, r.y)
			if is(Turn(west, east, p)) != r.side || is(Turn(east, west, p)) != -r.side {
				t.Errorf("P3.3: (%s, %s): %d, %d", x, r.y, is(Turn(west, east, p)), is(Turn(east, west, p)))
			}
		}
	}
}

// TestTurned: which way three points turn is the same whichever is the first, and the other way round if two change places.
func TestTurned(t *testing.T) {
	is, whole := must[api.Rat](t), must[int](t)
	threes(func(a, b, c api.Point) {
		x := is(Cross(a, b, c))
		if x != is(Cross(b, c, a)) || x != is(Cross(c, a, b)) || ratio.Sign(is(ratio.Add(x, is(Cross(a, c, b))))) != 0 {
			t.Fatalf("P3.3: Cross of %s, %s, %s turned", place(a), place(b), place(c))
		}
		if n := whole(Turn(a, b, c)); n != ratio.Sign(x) || n != -whole(Turn(b, a, c)) {
			t.Fatalf("P3.3: Turn of %s, %s, %s: %d", place(a), place(b), place(c), n)
		}
		if is(Dot(a, b, c)) != is(Dot(a, c, b)) || is(Far(a, b)) != is(Far(b, a)) || is(Dot(a, b, b)) != is(Far(a, b)) {
			t.Fatalf("P3.3: Dot or Far of %s, %s, %s turned", place(a), place(b), place(c))
		}
		if far := is(Far(a, b)); ratio.Sign(far) < 0 || (ratio.Sign(far) == 0) != (a == b) || (whole(Cmp(a, b)) == 0) != (a == b) {
			t.Fatalf("P3.3: Far or Cmp of %s, %s", place(a), place(b))
		}
	})
}

// TestTogether: Cross squared and Dot squared are Far times Far, and the third side's Far is the others' less twice Dot.
func TestTogether(t *testing.T) {
	is := must[api.Rat](t)
	l := grid()
	for _, a := range l {
		for _, b := range l {
			for _, c := range l {
				x, y, far, other := is(Cross(a, b, c)), is(Dot(a, b, c)), is(Far(a, b)), is(Far(a, c))
				if is(ratio.Add(is(ratio.Mul(x, x)), is(ratio.Mul(y, y)))) != is(ratio.Mul(far, other)) {
					t.Fatalf("P3.3: Cross and Dot of %s, %s, %s", place(a), place(b), place(c))
				}
				if is(ratio.Sub(is(ratio.Add(far, other)), is(ratio.Add(y, y)))) != is(Far(b, c)) {
					t.Fatalf("P3.3: Far of %s, %s, %s", place(a), place(b), place(c))
				}
			}
		}
	}
}

// TestMiddle: the middle of two is as far from both, and in line; that of three sees three areas alike.
func TestMiddle(t *testing.T) {
	is, in := must[api.Rat](t), must[api.Point](t)
	l := grid()
	for _, a := range l {
		for _, b := range l {
			m := in(Mid(a, b))
			if m != in(Mid(b, a)) || is(Far(a, m)) != is(Far(m, b)) || ratio.Sign(is(Cross(a, m, b))) != 0 {
				t.Fatalf("P3.3: Mid of %s, %s: %s", place(a), place(b), place(m))
			}
			for _, c := range l {
				m := in(Mid(a, b, c))
				if x := is(Cross(m, a, b)); x != is(Cross(m, b, c)) || x != is(Cross(m, c, a)) {
					t.Fatalf("P3.3: Mid of %s, %s, %s: %s", place(a), place(b), place(c), place(m))
				}
			}
		}
	}
}
