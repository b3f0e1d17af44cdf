package wide

import (
	"testing"

	"parquet/api"
)

func TestExample(t *testing.T) {
	if a, ok := Mul(From(-3), From(4)); a != From(-12) || !ok || Text(a) != "-12" {
		t.Errorf("P1.4: Mul(-3, 4): %s, %v", Text(a), ok)
	}
}

// TestSmallNumbers holds all calls against plain ints.
func TestSmallNumbers(t *testing.T) {
	for x := int64(-25); x <= 25; x++ {
		for y := int64(-25); y <= 25; y++ {
			a, b := From(x), From(y)
			sum, in := Add(a, b)
			less, is := Sub(a, b)
			times, fit := Mul(a, b)
			if sum != From(x+y) || less != From(x-y) || times != From(x*y) || !in || !is || !fit {
				t.Errorf("P1.4: %d, %d: %s, %s, %s", x, y, Text(sum), Text(less), Text(times))
			}
			q, r, ok := DivMod(a, b)
			if ok != (y != 0) || ok && (q != From(x/y) || r != From(x%y)) {
				t.Errorf("P1.4: %d by %d: %s, %s, %v", x, y, Text(q), Text(r), ok)
			}
			if got := Cmp(a, b); got != Cmp(less, From(0)) || (got == 0) != (a == b) {
				t.Errorf("P1.4: Cmp(%d, %d): %d", x, y, got)
			}
		}
	}
}

// TestLaws: what holds of whole numbers, wherever there is room.
func TestLaws(t *testing.T) {
	s := source(123456789)
	for range 5000 {
		a, b, c := short(s.number()), short(s.number()), short(s.number())
		ab, ba := mustMul(t, a, b), mustMul(t, b, a)
		sum, _ := Add(b, c)
		left := mustMul(t, a, sum)
		right, _ := Add(ab, mustMul(t, a, c))
		if ab != ba || left != right || mustMul(t, ab, c) != mustMul(t, a, mustMul(t, b, c)) {
			t.Fatalf("P1.4: Mul of %s, %s, %s", Text(a), Text(b), Text(c))
		}
		one, _ := Sum(a, b, c)
		two, _ := Sum(c, a, b)
		back, _ := Sub(one, sum)
		if one != two || back != a {
			t.Fatalf("P1.4: Sum of %s, %s, %s", Text(a), Text(b), Text(c))
		}
		if q, r, ok := DivMod(ab, b); ok && (q != a || r != api.Wide{}) {
			t.Fatalf("P1.4: DivMod(%s, %s): %s, %s", Text(ab), Text(b), Text(q), Text(r))
		}
		twice, _ := Shl(a, 1)
		if double, _ := Add(a, a); twice != double {
			t.Fatalf("P1.4: Shl(%s, 1): %s", Text(a), Text(twice))
		}
		if Cmp(a, b) != -Cmp(b, a) || Cmp(a, b) != -Cmp(Neg(a), Neg(b)) {
			t.Fatalf("P1.4: Cmp(%s, %s)", Text(a), Text(b))
		}
	}
}

// short keeps ten words, so that three of it can be multiplied.
func short(a api.Wide) api.Wide {
	out := api.Wide{}
	copy(out.D[:10], a.D[:10])
	out.Neg = a.Neg && out.D != [api.Words]uint32{}
	return out
}
