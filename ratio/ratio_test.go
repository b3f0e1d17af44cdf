package ratio

import (
	"math"
	"math/big"
	"testing"

	"parquet/api"
	"parquet/wide"
)

func TestIs(t *testing.T) {
	for _, a := range append(some(), pastLimit()...) {
		if !Is(a) {
			t.Errorf("P2.1: %s isn't Is", show(a))
		}
	}
	for _, a := range []api.Rat{{N: most(1024), D: wide.From(1)}, {N: wide.From(-1), D: most(1024)}, {N: most(1024), D: power(1023)}, {D: wide.From(1)}} {
		if !Is(a) {
			t.Errorf("P2.1: %s isn't Is", show(a))
		}
	}
	for _, a := range wrong() {
		if Is(a) {
			t.Errorf("P2.1: %s, Neg %v and %v, is Is", show(a), a.N.Neg, a.D.Neg)
		}
	}
}

func TestSafe(t *testing.T) {
	for _, a := range atLimit() {
		if !Safe(a, api.Safe) || !Safe(a, api.Safe+1) || Safe(a, api.Safe-1) {
			t.Errorf("P2.1: Safe of 500 bits: %s", show(a))
		}
	}
	for _, a := range pastLimit() {
		if Safe(a, api.Safe) || !Safe(a, api.Bits) {
			t.Errorf("P2.1: Safe of 501 bits: %s", show(a))
		}
	}
	for _, a := range wrong() {
		for _, bits := range []int{math.MinInt, -1, 0, 1, api.Safe, api.Bits, math.MaxInt} {
			if Safe(a, bits) {
				t.Errorf("P2.1: Safe of %s with %d bits", show(a), bits)
			}
		}
	}
	rows := []struct {
		s    string
		bits int
	}{{"0", 1}, {"1", 1}, {"-1", 1}, {"1/2", 2}, {"3", 2}, {"-3", 2}, {"255/256", 9}, {"256/255", 9}, {"-256/255", 9}, {"1/256", 9}, {"255/128", 8}, {"255/127", 8}}
	for _, r := range rows {
		a := read(t, r.s)
		for bits := -2; bits < 12; bits++ {
			if Safe(a, bits) != (bits >= r.bits) {
				t.Errorf("P2.1: Safe of %s with %d bits: %v", r.s, bits, Safe(a, bits))
			}
		}
		if Safe(a, math.MinInt) || !Safe(a, math.MaxInt) {
			t.Errorf("P2.1: Safe of %s with the least, the greatest int", r.s)
		}
	}
}

func TestSign(t *testing.T) {
	for s, want := range map[string]int{"0": 0, "1": 1, "-1": -1, "1/3": 1, "-7/2": -1} {
		if got := Sign(read(t, s)); got != want {
			t.Errorf("P2.1: Sign of %s: %d", s, got)
		}
	}
	for _, a := range append(notSafe(), atLimit()...) { // of N, whatever D is
		if got, want := Sign(a), number(a.N).Sign(); got != want {
			t.Errorf("P2.1: Sign of %s: %d", show(a), got)
		}
	}
}

func TestOf(t *testing.T) {
	ints := []int64{0, 1, -1, 2, -2, 3, 4, -6, 12, 1<<31 - 1, 1 << 32, -(1 << 32), 1<<62 - 1, math.MaxInt64, -math.MaxInt64, math.MinInt64}
	for _, n := range ints {
		if a, ok := Of(n, 0); ok || a != (api.Rat{}) {
			t.Errorf("P2.1: Of(%d, 0): %s, %v", n, show(a), ok)
		}
		for _, d := range ints[1:] {
			want := fromBig(new(big.Rat).SetFrac(big.NewInt(n), big.NewInt(d)))
			if a, ok := Of(n, d); a != want || !ok || !Is(a) {
				t.Errorf("P2.1: Of(%d, %d): %s, %v", n, d, show(a), ok)
			}
		}
	}
}

func TestNew(t *testing.T) {
	s := source(362436069)
	for range 4000 {
		n, d := s.whole(1023), s.whole(1023)
		if f := s.whole(300); s.next()%2 == 0 {
			n.Mul(n, f).Rsh(n, uint(max(n.BitLen()-1023, 0)))
			d.Mul(d, f).Rsh(d, uint(max(d.BitLen()-1023, 0)))
		}
		if d.Sign() == 0 {
			continue
		}
		for _, sign := range [][2]int64{{1, 1}, {-1, 1}, {1, -1}, {-1, -1}} {
			x, y := new(big.Int).Mul(n, big.NewInt(sign[0])), new(big.Int).Mul(d, big.NewInt(sign[1]))
			want := fromBig(new(big.Rat).SetFrac(x, y))
			if a, ok := New(words(x), words(y)); a != want || !ok {
				t.Fatalf("P2.1: New(%v, %v): %s, %v", x, y, show(a), ok)
			}
		}
	}
}

func TestNewEdges(t *testing.T) {
	one, none := wide.From(1), api.Wide{}
	half, top := power(1022), most(1023)
	good := []struct{ n, d, above, below api.Wide }{
		{top, one, top, one}, {one, top, one, top}, {top, top, one, one}, {half, half, one, one}, {half, top, half, top},
		{top, half, top, half}, {none, top, none, one}, {none, wide.Neg(half), none, one}, {wide.Neg(half), wide.Neg(top), half, top}, {half, wide.From(-2), wide.Neg(power(1021)), one},
	}
	for i, r := range good {
		if a, ok := New(r.n, r.d); a != (api.Rat{N: r.above, D: r.below}) || !ok {
			t.Errorf("P2.1: New, row %d: %s, %v", i, show(a), ok)
		}
	}
	over, all := power(1023), most(1024)
	bad := [][2]api.Wide{
		{over, one}, {one, over}, {over, over}, {all, one}, {one, all}, {all, all}, {wide.Neg(over), one}, {one, wide.Neg(over)}, {none, over}, {over, none},
		{one, none}, {none, none}, {top, none},
		{noZero(), one}, {one, noZero()}, {noZero(), noZero()}, {noZero(), none}, {none, noZero()}, {noZero(), over},
	}
	for i, r := range bad {
		if a, ok := New(r[0], r[1]); ok || a != (api.Rat{}) {
			t.Errorf("P2.1: New of what may not be, row %d: %s, %v", i, show(a), ok)
		}
	}
}
