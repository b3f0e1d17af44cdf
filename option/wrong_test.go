package option

import (
	"slices"
	"strings"
	"testing"

	"parquet/api"
)

// wrong are words that are none.
func wrong() []string {
	l := []string{
		"", " ", ",", "-", "#", "\x00", "\xff",
		"h", "c", "s", "hh", "cc", "ss", "h,", "c,", "s,", "s,,", "s,,,",
		"x", "x4", "a4", "g4", "i4", "b4", "d4", "r1,2,4", "t1,2,4", "4", "-4", "1,2,4", "64", "0",
		"H4", "C4", "S1,2,4", "hc4", "ch4", "hs1,2,4", "sh4", "4h", "4c", "1,2,4s",
		"h 4", " h4", "h4 ", "h\t4", "h4\n", "\nh4", "h4 c5", "h4,c5", "c 9", "c9 ", " c9", "s 1,2,4", "s1, 2,4", "s1,2 ,4", "s1,2,4 ", " s1,2,4", "s1 2 4", "s1,2,4 s1,2,4", "h4\r", "h4#", "h4#x",
		"h4,", "h,4", "h4,4", "h4,4,4", "c9,", "c,9", "c9,9", "c9,9,9",
		"s1", "s1,2", "s1,2,", "s1,,4", "s,2,4", ",s1,2,4", "s1,2,4,", "s1,2,4,4", "s1,2,4,4,4,4,4,4", "s1,2,,4", "s,1,2,4", "s1,,", "s,,4", "s,2,", "s1;2;4", "s1.2.4", "s1,2;4", "s(1,2,4)",
		"h=4", "h:4", "h4.0", "h4.", "h+4", "h4h", "h4x", "h1e1", "h4/1", "h8/2", "c9c", "c1_0", "s1,2,4x", "s1x,2,4", "s1,2/1,4",
		"--h4", "-h4", "h--4", "h4-", "\x00h4", "h4\x00", "h\xb4", "h４", "ｈ4", "é4", "\xff4", "h\u0664", "h4\u00a0",
	}
	for _, n := range []string{"", "-", "-0", "00", "04", "004", "01", "-01", "+1", "+4", "0x4", "1000000000", "4294967300", "18446744073709551620", strings.Repeat("4", 100000), strings.Repeat("0", 1000) + "4", "4a", "a", "½", "4 ", " 4"} {
		l = append(l, "h"+n, "c"+n, "s"+n+",2,4", "s1,"+n+",4", "s1,2,"+n, "s"+n+","+n+","+n)
	}
	return append(l, "s"+strings.Repeat("1,", 100000)+"4", strings.Repeat(",", 100000), strings.Repeat("h4", 1000))
}

func TestWrongWords(t *testing.T) {
	for _, w := range wrong() {
		refused(t, w)
	}
}

// TestWrongAmongRight: one wrong word is enough, wherever it stands, and even if what it says would be said again behind it.
func TestWrongAmongRight(t *testing.T) {
	right := []string{"h4", "c9", "s1,2,4", "h8"}
	for _, w := range wrong() {
		for i := range len(right) + 1 {
			refused(t, slices.Insert(slices.Clone(right), i, w)...)
		}
		refused(t, w, w)
		refused(t, w, "h4")
		refused(t, "h4", w)
	}
}

// TestWrongSizes: what a size may not be isn't mended by words behind it.
func TestWrongSizes(t *testing.T) {
	for _, w := range []string{"s-1,2,4", "s1,-1,4", "s65,2,4", "s1,65,4", "s1,2,0", "s1,2,-1", "s1,2,-4", "s1,2,3", "s1,2,5", "s1,2,63", "s1,2,65", "s1,2,128", "s999999999,2,4", "s1,-999999999,4", "s1,2,999999999"} {
		refused(t, w)
		refused(t, w, "s1,2,4")
		refused(t, "s1,2,4", w)
		refused(t, "h4", "s1,2,4", w, "s1,2,4", "s1,2,4", "c7")
	}
}

// TestEachByte: no byte but the three letters, the digits and the comma stands in a word.
func TestEachByte(t *testing.T) {
	for b := range 256 {
		c := string([]byte{byte(b)})
		if b != 'h' && b != 'c' {
			refused(t, c+"4")
		}
		if b != 's' {
			refused(t, c+"1,2,4")
		}
		if b != ',' {
			refused(t, "s1"+c+"2"+c+"4")
		}
		if n := b - '0'; n >= 0 && n <= 9 {
			parsed(t, asked(64, 40+n), "c4"+c)
			parsed(t, asked(64, 4096, size(n, 2, 4)), "s"+c+",2,4")
			parsed(t, asked(64, 4096, size(1, n, 4)), "s1,"+c+",4")
		} else {
			refused(t, "h4"+c)
			refused(t, "c4"+c)
			refused(t, "h"+c)
			refused(t, "c"+c)
			refused(t, "s"+c+",2,4")
			refused(t, "s1,"+c+",4")
			refused(t, "s1,2,4"+c)
		}
	}
}

// TestWrongIsZero: beside a false nothing is told, not even the words that were right.
func TestWrongIsZero(t *testing.T) {
	for _, l := range [][]string{{"h4", "c9", "s1,2,4", "x"}, {"h4", "c9", "s1,2,4", "h3"}, {"s1,2,4", "s1,2,3"}, {"s1,2"}} {
		o, ok := Parse(l...)
		if ok || show(o) != show(api.Options{}) {
			t.Errorf("P8.1: Parse of %q: %s, %v", l, show(o), ok)
		}
	}
}
