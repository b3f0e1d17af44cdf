package tri

import (
	"testing"

	"parquet/api"
	"parquet/ratio"
)

func TestExample(t *testing.T) {
	if good, ok := Good(at(0, 0), at(1, 0), at(0, 1)); !good || !ok {
		t.Errorf("P5.3: Good of (0, 0), (1, 0), (0, 1): %v, %v", good, ok)
	}
}

// atLeastHalfRight tells by Sharp alone whether a corner of what turns left has 45 degrees.
func atLeastHalfRight(t *testing.T, a, b, c api.Point) bool {
	t.Helper()
	tan, sharp, ok := Sharp(a, b, c)
	n, is := ratio.Cmp(tan, raw(1, 1))
	if !ok || !is {
		t.Fatalf("P5.3: Sharp of %s: %s, %v", where(a, b, c), show(tan), ok)
	}
	return !sharp || n >= 0
}

// TestGoodIsSharp: what is good has no corner with a tangent below 1, and what turns left and has none is good.
func TestGoodIsSharp(t *testing.T) {
	threes(func(a, b, c api.Point) {
		area, _ := Area2(a, b, c)
		want := ratio.Sign(area) > 0
		for _, l := range rounds(a, b, c) {
			want = want && atLeastHalfRight(t, l[0], l[1], l[2])
		}
		if good, ok := Good(a, b, c); good != want || !ok {
			t.Fatalf("P5.3: Good of %s: %v, %v", where(a, b, c), good, ok)
		}
	})
}

// TestBlunt: what turns has one corner at most that isn't sharp, and it is opposite to the longest side.
func TestBlunt(t *testing.T) {
	threes(func(a, b, c api.Point) {
		area, _ := Area2(a, b, c)
		if ratio.Sign(area) == 0 {
			return
		}
		blunt := 0
		for _, l := range rounds(a, b, c) {
			tan, sharp, _ := Sharp(l[0], l[1], l[2])
			if sharp && ratio.Sign(tan) != ratio.Sign(area) {
				t.Fatalf("P5.3: Sharp of %s: %s", where(l[:]...), show(tan))
			}
			if sharp {
				continue
			}
			blunt++
			sides, _ := Sides(l[0], l[1], l[2])
			sum, _ := ratio.Add(sides[0], sides[2])
			if n, _ := ratio.Cmp(sides[1], sum); n < 0 {
				t.Fatalf("P5.3: %s isn't sharp, and Sides tells that it is", where(l[:]...))
			}
		}
		if blunt > 1 {
			t.Fatalf("P5.3: %s has %d corners that aren't sharp", where(a, b, c), blunt)
		}
	})
}

// TestRising: as a corner opens, its tangent rises, up to 90 degrees; then there is none.
func TestRising(t *testing.T) {
	last := raw(0, 1)
	for n := 1; n <= 40; n++ {
		tan, sharp, ok := Sharp(at(0, 0), at(7, 0), at(20-n, 20+n))
		if sharp != (n < 20) || !ok {
			t.Fatalf("P5.3: Sharp, step %d: %s, %v, %v", n, show(tan), sharp, ok)
		}
		if c, _ := ratio.Cmp(tan, last); sharp && c <= 0 {
			t.Fatalf("P5.3: Sharp, step %d: %s, and %s ahead", n, show(tan), show(last))
		}
		last = tan
	}
}

// TestSplit: of a triangle that p cuts into three, the three are as much as the whole, none of them turns right if p isn't without, and one does if it is.
func TestSplit(t *testing.T) {
	s := source(521288629)
	for range 400 {
		a, b, c, p := s.point(5), s.point(5), s.point(5), s.point(5)
		whole, _ := Area2(a, b, c)
		parts, least := []api.Rat{}, 1
		for _, l := range rounds(a, b, c) {
			part, _ := Area2(l[0], l[1], p)
			parts, least = append(parts, part), min(least, ratio.Sign(part))
		}
		if sum, _ := ratio.Sum(parts...); sum != whole {
			t.Fatalf("P5.3: Area2 of %s cut at %s: %s", where(a, b, c), where(p), show(sum))
		}
		n, ok := Place(a, b, c, p)
		if ok != (ratio.Sign(whole) > 0) || ok && n != least {
			t.Fatalf("P5.3: Place in %s of %s: %d, %v", where(a, b, c), where(p), n, ok)
		}
	}
}
