package wide

import (
	"math/big"
	"strings"
	"testing"

	"parquet/api"
)

func TestText(t *testing.T) {
	pairs(func(a, _ api.Wide) {
		want := toBig(a).String()
		if got := Text(a); got != want {
			t.Fatalf("P1.3: Text of %s: %s", want, got)
		}
		back := a
		if a == noZero() {
			back = api.Wide{}
		}
		if got, ok := Parse(want); got != back || !ok {
			t.Fatalf("P1.3: Parse(%s): %s, %v", want, Text(got), ok)
		}
	})
}

func TestTextOfGroups(t *testing.T) {
	for n := 1; n <= 308; n++ {
		for _, s := range []string{"1" + strings.Repeat("0", n-1), strings.Repeat("9", n), strings.Repeat("10", n/2) + "7"} {
			for _, s := range []string{s, "-" + s} {
				a, ok := Parse(s)
				if !ok || Text(a) != s || a != read(t, s) {
					t.Fatalf("P1.3: %s: %s, %v", s, Text(a), ok)
				}
			}
		}
	}
}

func TestParseEdges(t *testing.T) {
	most := new(big.Int).Sub(limit(), big.NewInt(1))
	for _, s := range []string{most.String(), "-" + most.String()} {
		a, ok := Parse(s)
		if !ok || a.D != greatest().D || a.Neg != (s[0] == '-') {
			t.Errorf("P1.3: the greatest amount: %v, %v", a.Neg, ok)
		}
	}
	for i, s := range []string{
		limit().String(), "-" + limit().String(),
		new(big.Int).Lsh(limit(), 1).String(),
		new(big.Int).Mul(most, big.NewInt(10)).String(),
		strings.Repeat("9", 309), strings.Repeat("9", 310), strings.Repeat("9", 399),
		strings.Repeat("9", 400), "-" + strings.Repeat("9", 399), "-" + strings.Repeat("9", 400),
		"1" + strings.Repeat("0", 399), strings.Repeat("9", 401), strings.Repeat("1", 100000),
		strings.Repeat("0", 400), strings.Repeat("0", 399) + "1", strings.Repeat("0", 400) + "1",
		"-" + strings.Repeat("0", 398) + "1", "1" + strings.Repeat(" ", 399),
	} {
		if a, ok := Parse(s); ok || a != (api.Wide{}) {
			t.Errorf("P1.3: too great or too long, row %d: %s", i, Text(a))
		}
	}
}

func TestParseRefuses(t *testing.T) {
	for _, s := range []string{
		"", "-", "--", "+", "+0", "+1", "-0", "00", "01", "-01", "-00", "000000000", "0000000001",
		" ", " 1", "1 ", "1\n", "\t1", "1 2", "1_000", "1,000", "1.0", "1.", ".5", "1e3", "0x1", "0b1", "1/2",
		"--1", "-+1", "1-", "1-1", "12345678a", "a12345678", "123456789:", "123456789/", "-a", "abc", "\x00", "1\x00", "\xff", "1\xff", "\u0661", "\uff11", "\u22121",
	} {
		if a, ok := Parse(s); ok || a != (api.Wide{}) {
			t.Errorf("P1.3: %q is read: %s", s, Text(a))
		}
	}
}

// TestParseOnlyText tries each short text over what digits lie among: read is just what Text tells.
func TestParseOnlyText(t *testing.T) {
	const letters = "-0159/: +."
	var try func(s string)
	try = func(s string) {
		if a, ok := Parse(s); ok && Text(a) != s || !ok && a != (api.Wide{}) {
			t.Fatalf("P1.3: Parse(%q): %s, %v", s, Text(a), ok)
		}
		for i := 0; i < len(letters) && len(s) < 4; i++ {
			try(s + letters[i:i+1])
		}
	}
	try("")
	for n := int64(-3000); n <= 3000; n++ {
		s := big.NewInt(n).String()
		if a, ok := Parse(s); !ok || a != From(n) {
			t.Errorf("P1.3: Parse(%q): %s, %v", s, Text(a), ok)
		}
	}
}
