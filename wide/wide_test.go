package wide

import (
	"math"
	"math/big"
	"slices"
	"testing"

	"parquet/api"
)

func TestFromInt(t *testing.T) {
	for _, n := range []int64{0, 1, -1, 2, -2, 1<<31 - 1, 1 << 31, 1<<32 - 1, 1 << 32, 1<<32 + 1, -(1<<32 - 1), -(1 << 32), math.MaxInt64 - 1, math.MaxInt64, math.MinInt64 + 1, math.MinInt64} {
		a := From(n)
		if a != fromBig(big.NewInt(n)) || !Is(a) {
			t.Errorf("P1.1: From(%d): %v", n, a)
		}
		if m, ok := Int(a); m != n || !ok {
			t.Errorf("P1.1: Int of %d: %d, %v", n, m, ok)
		}
	}
	for _, s := range []string{"9223372036854775808", "-9223372036854775809", "18446744073709551615", "-18446744073709551615", "18446744073709551616", "-18446744073709551616", "18446744073709551617"} {
		if n, ok := Int(read(t, s)); n != 0 || ok {
			t.Errorf("P1.1: Int(%s): %d, %v", s, n, ok)
		}
	}
	for _, a := range []api.Wide{greatest(), Neg(greatest()), power(1023), Neg(power(64))} {
		if n, ok := Int(a); n != 0 || ok {
			t.Errorf("P1.1: Int of %d bits: %d, %v", Bits(a), n, ok)
		}
	}
}

func TestIs(t *testing.T) {
	if !Is(api.Wide{}) || Is(noZero()) {
		t.Error("P1.1: Is of 0, with and without Neg")
	}
	for _, a := range edges() {
		if Is(a) != (a != noZero()) {
			t.Errorf("P1.1: Is(%s)", Text(a))
		}
	}
	high := api.Wide{Neg: true}
	high.D[api.Words-1] = 1
	if !Is(high) {
		t.Error("P1.1: Is looks at the lowest words alone")
	}
}

func TestZeroWithNeg(t *testing.T) {
	z, five, none := noZero(), From(5), api.Wide{}
	if n, ok := Int(z); n != 0 || !ok {
		t.Error("P1.1: Int of a 0 with Neg")
	}
	if Cmp(z, none) != 0 || Cmp(none, z) != 0 || Cmp(z, z) != 0 || Cmp(z, From(-1)) != 1 || Cmp(z, From(1)) != -1 {
		t.Error("P1.1: Cmp of a 0 with Neg")
	}
	if Neg(z) != none || Neg(none) != none || Bits(z) != 0 || Text(z) != "0" {
		t.Error("P1.1: Neg, Bits, Text of a 0 with Neg")
	}
	rows := []struct {
		name string
		call func() (api.Wide, bool)
		want api.Wide
	}{
		{"0 + 0", func() (api.Wide, bool) { return Add(z, z) }, none},
		{"0 + 5", func() (api.Wide, bool) { return Add(z, five) }, five},
		{"-5 + 0", func() (api.Wide, bool) { return Add(From(-5), z) }, From(-5)},
		{"0 - 0", func() (api.Wide, bool) { return Sub(z, z) }, none},
		{"0 - plain 0", func() (api.Wide, bool) { return Sub(z, none) }, none},
		{"plain 0 - 0", func() (api.Wide, bool) { return Sub(none, z) }, none},
		{"0 * 5", func() (api.Wide, bool) { return Mul(z, five) }, none},
		{"5 * 0", func() (api.Wide, bool) { return Mul(five, z) }, none},
		{"0 * greatest", func() (api.Wide, bool) { return Mul(z, greatest()) }, none},
		{"0 << 0", func() (api.Wide, bool) { return Shl(z, 0) }, none},
		{"0 << 1024", func() (api.Wide, bool) { return Shl(z, 1024) }, none},
		{"sum of it", func() (api.Wide, bool) { return Sum(z) }, none},
		{"sum of two", func() (api.Wide, bool) { return Sum(z, z) }, none},
	}
	for _, r := range rows {
		if got, ok := r.call(); got != r.want || !ok {
			t.Errorf("P1.1: with a 0 that has Neg: %s: %v %s, %v", r.name, got.Neg, Text(got), ok)
		}
	}
	if Gcd(z, z) != none || Gcd(z, From(-5)) != five || Gcd(five, z) != five {
		t.Error("P1.1: Gcd of a 0 with Neg")
	}
	if q, r, ok := DivMod(z, five); q != none || r != none || !ok {
		t.Error("P1.1: a 0 with Neg by 5")
	}
	if q, r, ok := DivMod(five, z); q != none || r != none || ok {
		t.Error("P1.1: by a 0 with Neg")
	}
}

func TestCmpNegBits(t *testing.T) {
	pairs(func(a, b api.Wide) {
		x, y := toBig(a), toBig(b)
		if got := Cmp(a, b); got != x.Cmp(y) {
			t.Fatalf("P1.1: Cmp(%v, %v): %d", x, y, got)
		}
		if got := Neg(a); got != fromBig(new(big.Int).Neg(x)) {
			t.Fatalf("P1.1: Neg(%v): %s", x, Text(got))
		}
		if got := Bits(a); got != x.BitLen() {
			t.Fatalf("P1.1: Bits(%v): %d", x, got)
		}
	})
	for i := range api.Bits {
		if Bits(power(i)) != i+1 || Bits(Neg(power(i))) != i+1 {
			t.Errorf("P1.1: Bits of 2 to the power of %d", i)
		}
	}
	if Bits(greatest()) != api.Bits || Bits(api.Wide{}) != 0 {
		t.Error("P1.1: Bits of the greatest number, of 0")
	}
}

func TestAddSubMul(t *testing.T) {
	pairs(func(a, b api.Wide) {
		x, y := toBig(a), toBig(b)
		if got, ok := Add(a, b); !holds(got, ok, new(big.Int).Add(x, y)) {
			t.Fatalf("P1.2: Add(%v, %v): %s, %v", x, y, Text(got), ok)
		}
		if got, ok := Sub(a, b); !holds(got, ok, new(big.Int).Sub(x, y)) {
			t.Fatalf("P1.2: Sub(%v, %v): %s, %v", x, y, Text(got), ok)
		}
		if got, ok := Mul(a, b); !holds(got, ok, new(big.Int).Mul(x, y)) {
			t.Fatalf("P1.2: Mul(%v, %v): %s, %v", x, y, Text(got), ok)
		}
	})
}

func TestRoomForProducts(t *testing.T) {
	for i := range api.Bits {
		for j := max(0, 1020-i); j < min(api.Bits, 1030-i); j++ {
			got, ok := Mul(power(i), Neg(power(j)))
			if i+j < api.Bits && (got != Neg(power(i+j)) || !ok) || i+j >= api.Bits && (got != api.Wide{} || ok) {
				t.Fatalf("P1.2: 2 to the powers of %d and %d: %d bits, %v", i, j, Bits(got), ok)
			}
		}
	}
	most := greatest()
	for _, f := range []int64{3, 5, 15, 17, 257, 65537, 641, 6700417} { // they divide 2 to the power of 1024, less 1
		q, r, _ := DivMod(most, From(f))
		if got, ok := Mul(q, From(f)); r != (api.Wide{}) || got != most || !ok {
			t.Errorf("P1.2: a product that just fits, with %d", f)
		}
		if got, ok := Mul(q, From(f+1)); got != (api.Wide{}) || ok {
			t.Errorf("P1.2: a product that just doesn't, with %d", f+1)
		}
	}
}

func TestRoomForSums(t *testing.T) {
	most, one := greatest(), From(1)
	least := Neg(most)
	half := power(api.Bits - 1)
	rows := []struct {
		a, b, want api.Wide
		ok         bool
	}{
		{most, api.Wide{}, most, true},
		{most, one, api.Wide{}, false},
		{most, most, api.Wide{}, false},
		{most, least, api.Wide{}, true},
		{least, one, Neg(oneLess(most)), true},
		{least, From(-1), api.Wide{}, false},
		{oneLess(most), one, most, true},
		{half, oneLess(half), most, true},
		{half, half, api.Wide{}, false},
		{Neg(half), Neg(half), api.Wide{}, false},
	}
	for i, r := range rows {
		if got, ok := Add(r.a, r.b); got != r.want || ok != r.ok {
			t.Errorf("P1.2: Add, row %d: %s, %v", i, Text(got), ok)
		}
		if got, ok := Sub(r.a, Neg(r.b)); got != r.want || ok != r.ok {
			t.Errorf("P1.2: Sub, row %d: %s, %v", i, Text(got), ok)
		}
	}
}

// oneLess tells a less 1.
func oneLess(a api.Wide) api.Wide {
	return fromBig(new(big.Int).Sub(toBig(a), big.NewInt(1)))
}

func TestDivMod(t *testing.T) {
	pairs(func(a, b api.Wide) {
		x, y := toBig(a), toBig(b)
		q, r, ok := DivMod(a, b)
		if y.Sign() == 0 {
			if q != (api.Wide{}) || r != (api.Wide{}) || ok {
				t.Fatalf("P1.2: DivMod(%v, 0): %s, %s, %v", x, Text(q), Text(r), ok)
			}
			return
		}
		p, s := new(big.Int).QuoRem(x, y, new(big.Int))
		if !ok || q != fromBig(p) || r != fromBig(s) {
			t.Fatalf("P1.2: DivMod(%v, %v): %s, %s, %v", x, y, Text(q), Text(r), ok)
		}
	})
	for _, c := range [][4]int64{{7, 3, 2, 1}, {-7, 3, -2, -1}, {7, -3, -2, 1}, {-7, -3, 2, -1}, {2, 3, 0, 2}, {-2, 3, 0, -2}, {-6, 3, -2, 0}} {
		if q, r, ok := DivMod(From(c[0]), From(c[1])); q != From(c[2]) || r != From(c[3]) || !ok {
			t.Errorf("P1.2: DivMod(%d, %d): %s, %s", c[0], c[1], Text(q), Text(r))
		}
	}
}

// TestGuesses divides what was made of a quotient and a rest just below the divisor: there a guessed word is wrong most often.
func TestGuesses(t *testing.T) {
	s := source(2463534242)
	for range 20000 {
		b, q := s.number(), s.number()
		b.Neg, q.Neg = false, false
		x, ok := Mul(b, q)
		if b == (api.Wide{}) || !ok {
			continue
		}
		last := oneLess(b)
		x, ok = Add(x, last)
		if !ok {
			continue
		}
		if p, r, ok := DivMod(x, b); p != q || r != last || !ok {
			t.Fatalf("P1.2: DivMod(%s, %s): %s, %s", Text(x), Text(b), Text(p), Text(r))
		}
	}
}

func TestGcd(t *testing.T) {
	pairs(func(a, b api.Wide) {
		x, y := new(big.Int).Abs(toBig(a)), new(big.Int).Abs(toBig(b))
		if got := Gcd(a, b); got != fromBig(new(big.Int).GCD(nil, nil, x, y)) {
			t.Fatalf("P1.2: Gcd(%v, %v): %s", x, y, Text(got))
		}
	})
	for _, c := range [][3]int64{{0, 0, 0}, {0, -5, 5}, {-5, 0, 5}, {12, 18, 6}, {-12, -18, 6}, {1, 0, 1}, {7, 13, 1}, {math.MinInt64, 1 << 40, 1 << 40}} {
		if got := Gcd(From(c[0]), From(c[1])); got != From(c[2]) {
			t.Errorf("P1.2: Gcd(%d, %d): %s", c[0], c[1], Text(got))
		}
	}
	s := source(362436069)
	for range 2000 {
		a, b, f := s.number(), s.number(), s.number()
		x, in := Mul(a, f)
		y, is := Mul(b, f)
		if in && is && Gcd(x, y) != fromBig(new(big.Int).Abs(toBig(mustMul(t, Gcd(a, b), f)))) {
			t.Fatalf("P1.2: Gcd of numbers times %s", Text(f))
		}
	}
}

func mustMul(t *testing.T, a, b api.Wide) api.Wide {
	t.Helper()
	c, ok := Mul(a, b)
	if !ok {
		t.Fatalf("P1.2: Mul(%s, %s) has no room", Text(a), Text(b))
	}
	return c
}

func TestShl(t *testing.T) {
	for _, a := range edges() {
		for _, n := range []int{math.MinInt, -1025, -1, 0, 1, 2, 31, 32, 33, 63, 64, 65, 511, 512, 513, 992, 1022, 1023, 1024, 1025, 5000, math.MaxInt} {
			want := new(big.Int).Lsh(toBig(a), uint(min(max(n, 0), api.Bits)))
			if got, ok := Shl(a, n); !holds(got, ok, want) {
				t.Errorf("P1.2: Shl(%s, %d): %s, %v", Text(a), n, Text(got), ok)
			}
		}
	}
	s := source(521288629)
	for range 20000 {
		a, n := s.number(), int(s.next()%1200)
		want := new(big.Int).Lsh(toBig(a), uint(min(n, api.Bits)))
		if got, ok := Shl(a, n); !holds(got, ok, want) {
			t.Fatalf("P1.2: Shl(%s, %d): %s, %v", Text(a), n, Text(got), ok)
		}
	}
}

func TestSum(t *testing.T) {
	most, one, none := greatest(), From(1), api.Wide{}
	rows := []struct {
		l    []api.Wide
		want api.Wide
		ok   bool
	}{
		{nil, none, true},
		{[]api.Wide{}, none, true},
		{[]api.Wide{none}, none, true},
		{[]api.Wide{From(-7)}, From(-7), true},
		{[]api.Wide{most}, most, true},
		{[]api.Wide{Neg(most)}, Neg(most), true},
		{[]api.Wide{From(1), From(2), From(3), From(4)}, From(10), true},
		{[]api.Wide{From(5), From(-5), From(-9)}, From(-9), true},
		{[]api.Wide{most, From(-1), one}, most, true},
		{[]api.Wide{From(-1), most, one}, most, true},
		{[]api.Wide{most, one, From(-1)}, none, false},
		{[]api.Wide{one, most, Neg(most)}, none, false},
		{[]api.Wide{Neg(most), From(-1), one}, none, false},
	}
	for i, r := range rows {
		kept := slices.Clone(r.l)
		if got, ok := Sum(r.l...); got != r.want || ok != r.ok {
			t.Errorf("P1.2: Sum, row %d: %s, %v", i, Text(got), ok)
		}
		if !slices.Equal(kept, r.l) {
			t.Errorf("P1.2: Sum changes its row %d", i)
		}
	}
	if got, ok := Sum(); got != none || !ok {
		t.Error("P1.2: Sum of none")
	}
	many, want := []api.Wide{}, new(big.Int)
	for i := range int64(1000) {
		n := (i - 400) * 1000003 * 1000003
		many, want = append(many, From(n)), want.Add(want, big.NewInt(n))
	}
	if got, ok := Sum(many...); !holds(got, ok, want) {
		t.Errorf("P1.2: Sum of many: %s", Text(got))
	}
}
