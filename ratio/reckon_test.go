package ratio

import (
	"math/big"
	"slices"
	"testing"

	"parquet/api"
	"parquet/wide"
)

func TestReckons(t *testing.T) {
	pairs(func(a, b api.Rat) {
		x, y := toBig(a), toBig(b)
		for _, c := range calls() {
			got, ok := c.ours(a, b)
			if c.name == "Div" && y.Sign() == 0 {
				if ok || got != (api.Rat{}) {
					t.Fatalf("P2.2: Div(%v, 0): %s, %v", x, show(got), ok)
				}
				continue
			}
			if want := fromBig(c.big(x, y)); got != want || !ok {
				t.Fatalf("P2.2: %s(%v, %v): %s, %v", c.name, x, y, show(got), ok)
			}
		}
		if got, ok := Cmp(a, b); got != x.Cmp(y) || !ok {
			t.Fatalf("P2.2: Cmp(%v, %v): %d, %v", x, y, got, ok)
		}
		least := a
		if x.Cmp(y) > 0 {
			least = b
		}
		if got, ok := Least(a, b); got != least || !ok {
			t.Fatalf("P2.2: Least(%v, %v): %s, %v", x, y, show(got), ok)
		}
	})
}

func TestNotSafe(t *testing.T) {
	none := api.Rat{}
	for i, a := range notSafe() {
		for _, b := range append(atLimit()[:4], fromBig(big.NewRat(0, 1)), fromBig(big.NewRat(2, 3)), a) {
			for _, c := range calls() {
				one, in := c.ours(a, b)
				two, is := c.ours(b, a)
				if in || is || one != none || two != none {
					t.Errorf("P2.2: %s with %s (row %d), %s: %v, %v", c.name, show(a), i, show(b), in, is)
				}
			}
			for _, l := range [][]api.Rat{{a, b}, {b, a}, {b, b, a}, {a, b, b}, {b, a, b}} {
				if got, ok := Least(l...); ok || got != none {
					t.Errorf("P2.2: Least with %s (row %d): %s", show(a), i, show(got))
				}
				if got, ok := Sum(l...); ok || got != none {
					t.Errorf("P2.2: Sum with %s (row %d): %s", show(a), i, show(got))
				}
			}
			one, in := Cmp(a, b)
			two, is := Cmp(b, a)
			if in || is || one != 0 || two != 0 {
				t.Errorf("P2.2: Cmp with %s (row %d): %d, %d", show(a), i, one, two)
			}
		}
	}
}

// TestRoom: what two numbers of 500 bits make has twice as many, and one more; it is told, and isn't safe itself.
func TestRoom(t *testing.T) {
	a := api.Rat{N: most(500), D: power(499)}
	b := api.Rat{N: most(500), D: words(new(big.Int).Sub(number(most(500)), big.NewInt(2)))}
	sum, ok := Add(a, b)
	if !ok || sum != fromBig(new(big.Rat).Add(toBig(a), toBig(b))) || wide.Bits(sum.N) != 1001 {
		t.Errorf("P2.2: the sum of long fractions: %d bits, %v", wide.Bits(sum.N), ok)
	}
	c := api.Rat{N: most(500), D: most(499)}
	d := api.Rat{N: most(500), D: power(498)}
	if sum, ok := Add(c, d); !ok || sum != fromBig(new(big.Rat).Add(toBig(c), toBig(d))) || Safe(sum, api.Safe) {
		t.Errorf("P2.2: the sum of long fractions: %s, %v", show(sum), ok)
	}
	if got, ok := Add(sum, a); ok || got != (api.Rat{}) {
		t.Errorf("P2.2: a sum that isn't safe is reckoned with: %s", show(got))
	}
}

func TestSum(t *testing.T) {
	f := func(s string) api.Rat { return read(t, s) }
	long, near := api.Rat{N: power(499), D: wide.From(1)}, api.Rat{N: most(500), D: wide.From(1)}
	twice := api.Rat{N: power(500), D: wide.From(1)}
	none := api.Rat{}
	rows := []struct {
		l    []api.Rat
		want api.Rat
		ok   bool
	}{
		{nil, f("0"), true},
		{[]api.Rat{}, f("0"), true},
		{[]api.Rat{f("0")}, f("0"), true},
		{[]api.Rat{f("-7/3")}, f("-7/3"), true},
		{[]api.Rat{near}, near, true},
		{[]api.Rat{f("1/2"), f("1/3"), f("1/6")}, f("1"), true},
		{[]api.Rat{f("1/2"), f("1/3"), f("-5/6")}, f("0"), true},
		{[]api.Rat{long, long}, twice, true},         // past the limit at the end alone
		{[]api.Rat{long, long, f("0")}, none, false}, // and on the way
		{[]api.Rat{long, long, negated([]api.Rat{long})[0]}, none, false},
		{[]api.Rat{long, negated([]api.Rat{long})[0], long}, long, true},
		{[]api.Rat{near, f("1")}, twice, true},
		{[]api.Rat{near, f("1"), f("-1")}, none, false},
		{[]api.Rat{near, f("-1"), f("1")}, near, true},
		{[]api.Rat{{}}, none, false},
		{[]api.Rat{twice}, none, false},
		{[]api.Rat{{N: wide.From(2), D: wide.From(4)}}, none, false},
		{[]api.Rat{{N: noZero(), D: wide.From(1)}}, none, false},
	}
	for i, r := range rows {
		kept := slices.Clone(r.l)
		if got, ok := Sum(r.l...); got != r.want || ok != r.ok {
			t.Errorf("P2.2: Sum, row %d: %s, %v", i, show(got), ok)
		}
		if !slices.Equal(kept, r.l) {
			t.Errorf("P2.2: Sum changes its row %d", i)
		}
	}
	many, want := []api.Rat{}, new(big.Rat)
	for i := range int64(300) {
		x := big.NewRat(i*7-1000, i%40+1)
		many, want = append(many, fromBig(x)), want.Add(want, x)
	}
	if got, ok := Sum(many...); got != fromBig(want) || !ok {
		t.Errorf("P2.2: Sum of many: %s, %v", show(got), ok)
	}
}

func TestLeast(t *testing.T) {
	if got, ok := Least(); ok || got != (api.Rat{}) {
		t.Errorf("P2.2: Least of none: %s, %v", show(got), ok)
	}
	for _, a := range append(append(some(), pastLimit()...), wrong()...) { // one alone isn't compared
		if got, ok := Least(a); got != a || !ok {
			t.Errorf("P2.2: Least of %s alone: %s, %v", show(a), show(got), ok)
		}
	}
	l := []api.Rat{}
	for _, s := range []string{"-3", "-1/2", "-1/3", "0", "1/3", "1/2", "2/3", "1", "3"} {
		l = append(l, read(t, s))
	}
	for i := range l {
		for j := i; j < len(l); j++ {
			part := append(slices.Clone(l[j:]), l[i:j]...) // the least one anywhere
			kept := slices.Clone(part)
			if got, ok := Least(part...); got != l[i] || !ok {
				t.Errorf("P2.2: Least from %d on, turned by %d: %s, %v", i, j, show(got), ok)
			}
			if !slices.Equal(kept, part) {
				t.Errorf("P2.2: Least changes what it is handed")
			}
		}
	}
}
