package ratio

import (
	"testing"

	"parquet/api"
)

func must(t *testing.T) func(a api.Rat, ok bool) api.Rat {
	return func(a api.Rat, ok bool) api.Rat {
		t.Helper()
		if !ok {
			t.Fatal("P2.4: no answer")
		}
		return a
	}
}

func TestExample(t *testing.T) {
	half, _ := Parse("1/2")
	third, _ := Of(2, 6)
	if a, ok := Add(half, third); Text(a) != "5/6" || !ok {
		t.Errorf("P2.4: 1/2 and 1/3: %s, %v", Text(a), ok)
	}
}

// TestLaws: what holds of fractions, wherever there is room.
func TestLaws(t *testing.T) {
	is, s := must(t), source(987654321)
	zero, one := is(Of(0, 1)), is(Of(1, 1))
	for range 2000 {
		a, b, c := short(&s), short(&s), short(&s)
		if is(Add(a, b)) != is(Add(b, a)) || is(Mul(a, b)) != is(Mul(b, a)) {
			t.Fatalf("P2.4: turned round: %s, %s", Text(a), Text(b))
		}
		if is(Add(is(Add(a, b)), c)) != is(Add(a, is(Add(b, c)))) || is(Mul(is(Mul(a, b)), c)) != is(Mul(a, is(Mul(b, c)))) {
			t.Fatalf("P2.4: in another order: %s, %s, %s", Text(a), Text(b), Text(c))
		}
		if is(Mul(a, is(Add(b, c)))) != is(Add(is(Mul(a, b)), is(Mul(a, c)))) {
			t.Fatalf("P2.4: times a sum: %s, %s, %s", Text(a), Text(b), Text(c))
		}
		if is(Sub(is(Add(a, b)), b)) != a || is(Sub(a, a)) != zero || is(Add(a, zero)) != a || is(Mul(a, one)) != a {
			t.Fatalf("P2.4: there and back: %s, %s", Text(a), Text(b))
		}
		if Sign(b) != 0 && (is(Div(is(Mul(a, b)), b)) != a || is(Div(b, b)) != one) {
			t.Fatalf("P2.4: times and by: %s, %s", Text(a), Text(b))
		}
		if got, ok := Cmp(a, b); got != Sign(is(Sub(a, b))) || !ok || (got == 0) != (a == b) {
			t.Fatalf("P2.4: Cmp(%s, %s): %d", Text(a), Text(b), got)
		}
		whole, _ := Floor(a)
		if rest := is(Sub(a, is(New(whole, one.N)))); Sign(rest) < 0 || Sign(is(Sub(rest, one))) >= 0 {
			t.Fatalf("P2.4: Floor of %s leaves %s", Text(a), Text(rest))
		}
	}
}

// short gives fractions of which three can be multiplied and still be reckoned with.
func short(s *source) api.Rat {
	for {
		if a := s.fraction(); Safe(a, 100) {
			return a
		}
	}
}
