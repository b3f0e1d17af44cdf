package ratio

import (
	"math"
	"math/big"
	"strings"
	"testing"

	"parquet/api"
	"parquet/wide"
)

// longest are fractions with numbers as long as there is room for.
func longest() []api.Rat {
	l := []api.Rat{
		{N: most(1024), D: wide.From(1)}, {N: most(1024), D: wide.From(2)}, {N: wide.From(1), D: most(1024)}, {N: most(1024), D: power(1023)},
		{N: power(1023), D: most(1024)}, {N: most(1023), D: most(1024)}, {N: most(1024), D: most(1023)},
	}
	return append(l, negated(l)...)
}

func TestFloor(t *testing.T) {
	check := func(a api.Rat) {
		t.Helper()
		want := new(big.Int).Div(number(a.N), number(a.D)) // D is above 0: rounds down
		if got, ok := Floor(a); got != words(want) || !ok {
			t.Fatalf("P2.3: Floor of %s: %v, %v", show(a), number(got), ok)
		}
	}
	for _, a := range append(append(some(), pastLimit()...), longest()...) {
		check(a)
	}
	s := source(521288629)
	for range 4000 {
		check(s.fraction())
	}
	for _, a := range wrong() {
		if got, ok := Floor(a); ok || got != (api.Wide{}) {
			t.Errorf("P2.3: Floor of %s: %v, %v", show(a), number(got), ok)
		}
	}
}

func TestText(t *testing.T) {
	check := func(a api.Rat) {
		t.Helper()
		want := toBig(a).RatString()
		if got := Text(a); got != want {
			t.Fatalf("P2.3: Text of %s: %s", want, got)
		}
		if got, ok := Parse(want); got != a || !ok {
			t.Fatalf("P2.3: Parse(%s): %s, %v", want, show(got), ok)
		}
	}
	for _, a := range append(append(some(), pastLimit()...), longest()...) {
		check(a)
	}
	s := source(123456789)
	for range 2000 {
		check(s.fraction())
	}
	for _, a := range wrong() {
		if got := Text(a); got != "" {
			t.Errorf("P2.3: Text of %s: %s", show(a), got)
		}
	}
}

func TestParseWrong(t *testing.T) {
	over := new(big.Int).Lsh(big.NewInt(1), api.Bits).String()
	for _, s := range []string{
		"", "/", "//", "1/", "/2", "/-2", "-/2", "1//2", "1/2/", "/1/2", "1/2/3", "2/4", "-2/4", "6/3", "5/5", "1/1", "-1/1", "0/1", "0/5", "0/0", "1/0", "-1/0",
		"1/-2", "-1/-2", "0/-1", "-0", "-0/1", "-0/2", "+1", "+1/2", "1/+2", "1 /2", "1/ 2", " 1/2", "1/2 ", "1/2\n", "01/2", "1/02", "1/2.0", "1.5", "0.5", "1e3", "1/a", "a/2", "1:2", "1\\2", "½", "1\u20442", "1/\u0662", "\x00", "1/2\x00",
		over, "-" + over, "1/" + over, over + "/3", strings.Repeat("9", 5000), "1/" + strings.Repeat("9", 5000), strings.Repeat("1/", 4000),
	} {
		if a, ok := Parse(s); ok || a != (api.Rat{}) {
			t.Errorf("P2.3: %q is read: %s", s[:min(len(s), 50)], show(a))
		}
	}
}

// TestParseOnlyText tries each short text over what fractions are written with: read is just what Text tells.
func TestParseOnlyText(t *testing.T) {
	const letters = "-/0123469 +."
	read := 0
	var try func(s string)
	try = func(s string) {
		a, ok := Parse(s)
		if ok && (Text(a) != s || toBig(a).RatString() != s) || !ok && a != (api.Rat{}) {
			t.Fatalf("P2.3: Parse(%q): %s, %v", s, show(a), ok)
		}
		if ok {
			read++
		}
		for i := 0; i < len(letters) && len(s) < 5; i++ {
			try(s + letters[i:i+1])
		}
	}
	try("")
	if want := countTexts(); read != want {
		t.Errorf("P2.3: %d short texts are read, not %d", read, want)
	}
}

// countTexts tells how many fractions have a text of at most 5 bytes over the digits 0123469.
func countTexts() int {
	count := 0
	fits := func(s string) bool { return len(s) <= 5 && !strings.ContainsAny(s, "578") }
	for n := int64(-9999); n <= 99999; n++ {
		for d := int64(1); d <= 999; d++ {
			x := big.NewRat(n, d)
			if x.Denom().Int64() == d && fits(x.RatString()) {
				count++
			}
			if n < -99 || n > 999 { // no room for a number below
				break
			}
		}
	}
	return count
}

func TestDecimal(t *testing.T) {
	rows := []struct {
		s      string
		digits int
		want   string
	}{
		{"0", 0, "0"}, {"0", 1, "0.0"}, {"0", 20, "0.00000000000000000000"},
		{"1", 0, "1"}, {"-1", 0, "-1"}, {"12", 1, "12.0"}, {"-12", 3, "-12.000"},
		{"1/2", 0, "1"}, {"-1/2", 0, "-1"}, {"3/2", 0, "2"}, {"-3/2", 0, "-2"}, {"5/2", 0, "3"}, {"1/3", 0, "0"}, {"-1/3", 0, "0"}, {"2/3", 0, "1"}, {"-2/3", 0, "-1"},
		{"1/20", 1, "0.1"}, {"-1/20", 1, "-0.1"}, {"3/20", 1, "0.2"}, {"-3/20", 1, "-0.2"}, {"499/10000", 1, "0.0"}, {"-499/10000", 1, "0.0"}, {"501/10000", 1, "0.1"},
		{"19/20", 1, "1.0"}, {"-19/20", 1, "-1.0"}, {"199/20", 1, "10.0"}, {"9999/1000", 2, "10.00"}, {"-9999/1000", 2, "-10.00"},
		{"1/3", 4, "0.3333"}, {"22/7", 2, "3.14"}, {"22/7", 20, "3.14285714285714285714"}, {"-22/7", 20, "-3.14285714285714285714"},
		{"1/100000000000000000000", 20, "0.00000000000000000001"}, {"1/200000000000000000000", 20, "0.00000000000000000001"}, {"-1/200000000000000000000", 20, "-0.00000000000000000001"},
		{"1/200000000000000000001", 20, "0.00000000000000000000"}, {"-1/200000000000000000001", 20, "0.00000000000000000000"}, {"1/200000000000000000000", 19, "0.0000000000000000000"},
		{"7/2", -1, "4"}, {"7/2", math.MinInt, "4"}, {"-7/2", -1, "-4"}, {"1/3", 21, "0.33333333333333333333"}, {"2/3", math.MaxInt, "0.66666666666666666667"},
		{"1234567890123456789012345678901234567890/3", 2, "411522630041152263004115226300411522630.00"},
	}
	for _, r := range rows {
		if got, ok := Decimal(read(t, r.s), r.digits); got != r.want || !ok {
			t.Errorf("P2.3: Decimal(%s, %d): %q, %v", r.s, r.digits, got, ok)
		}
	}
	for _, a := range notSafe() {
		for _, digits := range []int{-1, 0, 2, 20, 21} {
			if got, ok := Decimal(a, digits); ok || got != "" {
				t.Errorf("P2.3: Decimal(%s, %d): %q", show(a), digits, got)
			}
		}
	}
}

// TestDecimals holds it against math/big, which rounds likewise and tells a - of what is rounded to 0 too.
func TestDecimals(t *testing.T) {
	check := func(a api.Rat) {
		t.Helper()
		for digits := range 21 {
			want := toBig(a).FloatString(digits)
			if strings.Trim(want, "-0.") == "" {
				want = strings.TrimPrefix(want, "-")
			}
			if got, ok := Decimal(a, digits); got != want || !ok {
				t.Fatalf("P2.3: Decimal(%s, %d): %q, not %q", show(a), digits, got, want)
			}
		}
	}
	for _, a := range some() {
		check(a)
	}
	s := source(2463534242)
	for range 500 {
		check(s.fraction())
	}
	for n := int64(-90); n <= 90; n++ { // many halves
		for _, d := range []int64{2, 4, 8, 16, 20, 32, 40, 200, 2000} {
			check(fromBig(big.NewRat(n, d)))
		}
	}
}
