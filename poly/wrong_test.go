package poly

import (
	"fmt"
	"slices"
	"strings"
	"testing"

	"parquet/api"
)

// good has each kind of line; its marks and attributes are told.
const good = "2 2 1 1\n1 0 0 a 5\n2 4 0 b 6\n2 1\n1 1 2 7\n2 2 1 8\n2\n1 1/2 -1/3\n2 3 4\n"

// TestNotInt puts what isn't lex's Int in the place of each word that is to be one.
func TestNotInt(t *testing.T) {
	parsed(t, good)
	l := rows(good)
	for i, row := range l {
		words := strings.Fields(row)
		for k := range words {
			if words[k] == "a" || words[k] == "b" || i >= 7 && k > 0 {
				continue
			}
			for _, w := range []string{"x", "-", "+1", "-0", "01", "00", "1.0", "1/2", "2/1", "1e0", "1000000000", "-1000000000", "18446744073709551617", "4294967297", "\x00", "١", "1_0", "0x1"} {
				c := slices.Clone(words)
				c[k] = w
				refused(t, replaced(l, i+1, strings.Join(c, " ")), i+1)
			}
		}
	}
}

// TestNotFraction puts what isn't a fraction, or isn't as one is written, in a hole's places.
func TestNotFraction(t *testing.T) {
	const head = "0 2 0 0\n0 0\n2\n"
	parsed(t, head+"1 1/2 1\n2 1 1/2")
	for _, w := range []string{"2/4", "-2/4", "6/3", "1/1", "5/1", "0/1", "0/5", "-0", "-0/3", "1/0", "0/0", "1/-2", "-1/-2", "+1", "+1/2", "01/2", "1/02", "1/", "/2", "/", "1//2", "1/2/3", "1.5", "x", "1/x", "-", "1e3", "½", strings.Repeat("9", 309), "1/" + strings.Repeat("9", 309), strings.Repeat("1", 500)} {
		refused(t, head+"1 "+w+" 1\n2 1 1/2", 4)
		refused(t, head+"1 1 "+w+"\n2 1 1/2", 4)
		refused(t, head+"1 1/2 1\n2 "+w+" 1/2", 5)
		refused(t, head+"1 1/2 1\n2 1/2 "+w+"\n", 5)
	}
}

// TestLongFractions: a hole's numbers may be as long as there is room for.
func TestLongFractions(t *testing.T) {
	high, low := "1"+strings.Repeat("0", 300), strings.Repeat("9", 308)
	d := parsed(t, "0 2 0 0\n0 0\n1\n1 -"+low+" "+high+"/"+low)
	if want := pt(t, "-"+low, high+"/"+low); len(d.H) != 1 || d.H[0] != want {
		t.Errorf("P7.1: long fractions: %s", show(d))
	}
}

// TestWords gives each line a word too many, and words too few.
func TestWords(t *testing.T) {
	l := rows(good)
	for i, row := range l {
		for _, w := range []string{"0", "1", "2", "x", "1/2"} {
			refused(t, replaced(l, i+1, row+" "+w), i+1)
		}
		words := strings.Fields(row)
		if len(words) == 1 {
			continue
		}
		for k := range words {
			refused(t, replaced(l, i+1, strings.Join(slices.Delete(slices.Clone(words), k, k+1), " ")), i+1)
			if k > 0 {
				refused(t, replaced(l, i+1, strings.Join(words[:k], " ")+" # "+words[k]), i+1)
			}
		}
	}
}

// TestLineTooFew blanks each line: then the one behind stands in its place.
func TestLineTooFew(t *testing.T) {
	l := rows(good)
	for i, row := range l {
		for _, blank := range []string{"", " ", "#", "#" + row} {
			refused(t, replaced(l, i+1, blank), i+2)
		}
	}
}

// TestLineTooMany tells each line twice.
func TestLineTooMany(t *testing.T) {
	l := rows(good)
	for i, row := range l {
		refused(t, replaced(l, i+1, row+"\n"+row), i+2)
	}
}

// TestHeads holds each number of a heading at its bounds, and one past them.
func TestHeads(t *testing.T) {
	for _, c := range []struct {
		s    string
		line int
	}{
		{"-1 2 0 0\n0 0\n0", 1}, {"1001 2 0 0\n0 0\n0", 1}, {"1000 2 0 0", 2}, {"1000 2 0 0\n1 0 0\n", 3}, {"999999999 2 0 0", 1}, {"-999999999 2 0 0", 1},
		{"0 1 0 0\n0 0\n0", 1}, {"0 3 0 0\n0 0\n0", 1}, {"0 -2 0 0\n0 0\n0", 1}, {"0 0 0 0\n0 0\n0", 1},
		{"0 2 -1 0\n0 0\n0", 1}, {"0 2 3 0\n0 0\n0", 1}, {"0 2 0 -1\n0 0\n0", 1}, {"0 2 0 2\n0 0\n0", 1},
		{"0 2 0 0\n-1 0\n0", 2}, {"0 2 0 0\n1001 0\n0", 2}, {"0 2 0 0\n1000 0", 3}, {"0 2 0 0\n999999999 0", 2},
		{"0 2 0 0\n0 -1\n0", 2}, {"0 2 0 0\n0 2\n0", 2},
		{"0 2 0 0\n0 0\n-1", 3}, {"0 2 0 0\n0 0\n1001", 3}, {"0 2 0 0\n0 0\n1000", 4}, {"0 2 0 0\n0 0\n1000\n1 0 0\n", 5}, {"0 2 0 0\n0 0\n999999999", 3},
		{"0 2 0 0\n1 0\n0 0 0\n0", 3}, {"0 2 0 0\n1 0\n1 1 1\n0", 3}, {"0 2 0 0\n1 0\n1 0 0\n0", 3}, {"0 2 0 0\n1 0\n0 -1 -1\n0", 3}, // no vertex at all
	} {
		refused(t, c.s, c.line)
	}
	for _, s := range []string{"0 2 0 0\n0 0\n0", "0 2 1 0\n0 0\n0", "0 2 2 0\n0 0\n0", "0 2 0 1\n0 0\n0", "0 2 0 0\n0 1\n0"} {
		parsed(t, s)
	}
}

// TestManyItems: lists that are far longer than those of a drawing that may be, as many as a text has room for.
func TestManyItems(t *testing.T) {
	for _, first := range []int{0, 1} {
		v, s, h := "", "", ""
		for i := range 440 {
			v += fmt.Sprintln(i+first, 1, 2)
			s += fmt.Sprintln(i+first, 0, 0)
			h += fmt.Sprintln(i+first, 1, 2)
		}
		if d := parsed(t, "440 2 0 0\n"+v+"0 0\n0"); len(d.V) != 440 || d.V[439] != (api.Vert{X: 1, Y: 2}) {
			t.Errorf("P7.1: %d vertices", len(d.V))
		}
		if d := parsed(t, "1 2 0 0\n0 1 2\n440 0\n"+s+"0"); len(d.S) != 440 {
			t.Errorf("P7.1: %d segments", len(d.S))
		}
		if d := parsed(t, "0 2 0 0\n0 0\n440\n"+h); len(d.H) != 440 || d.H[439] != at(1, 2) {
			t.Errorf("P7.1: %d holes", len(d.H))
		}
		refused(t, "441 2 0 0\n"+v+"0 0\n0", 442)
		refused(t, "439 2 0 0\n"+v+"0 0\n0", 441)
		refused(t, "0 2 0 0\n0 0\n441\n"+h, 444)
		refused(t, "0 2 0 0\n0 0\n439\n"+h, 443)
	}
}

// TestEndsEarly cuts a text behind each line, with and without a byte 10 at the end.
func TestEndsEarly(t *testing.T) {
	l := rows(good)
	for n := 1; n < len(l); n++ {
		s := strings.Join(l[:n], "\n")
		refused(t, s, n+1)
		refused(t, s+"\n", n+1)
		refused(t, s+"# a", n+1)
		refused(t, s+" \r\n", n+1)
		refused(t, s+"\n\n", n+2)
		refused(t, s+"\n#", n+2)
		refused(t, s+"\n# a\n", n+2)
		refused(t, s+"\n \n\r\n\n# a", n+5)
	}
	parsed(t, good)
	parsed(t, strings.TrimSuffix(good, "\n"))
}

// TestNothing: texts without a word.
func TestNothing(t *testing.T) {
	for s, line := range map[string]int{"": 1, " ": 2, "#": 2, "\r": 2, "\n": 2, "\n\n": 3, " \n": 2, "\n ": 3, "# a\n# b": 3, "# a\n# b\n": 3, "\n\n\n\n\n\n\n\n\n": 10} {
		refused(t, s, line)
	}
}

// TestBehind: behind the holes there is no line with a word.
func TestBehind(t *testing.T) {
	n := len(rows(good))
	for _, s := range []string{"0", "x", "1 2", "0 2 0 0", good, "\x00", "é"} {
		refused(t, good+s, n+1)
		refused(t, good+s+"\n", n+1)
		refused(t, good+"\n# a\n "+s, n+3)
		refused(t, strings.Replace(good, "2\n1 1/2 -1/3\n2 3 4\n", "0\n"+s, 1), n-1)
	}
	for _, s := range []string{"", "\n", "#", "# a", "\n\n\n", " \t\r\n#\n"} {
		parsed(t, good+s)
	}
}

// TestMaxText: of just so many bytes a text is read, whatever they are; of one more the first line is wrong.
func TestMaxText(t *testing.T) {
	for _, fill := range []string{"#", "\n", " ", "\t", "# "} {
		s := good + strings.Repeat(fill, api.MaxText)
		parsed(t, s[:api.MaxText-1])
		parsed(t, s[:api.MaxText])
		refused(t, s[:api.MaxText+1], 1)
		s = strings.Repeat(fill, api.MaxText-1)[:api.MaxText-1-len(good)] + "\n" + good
		parsed(t, s)
		refused(t, s+"\n", 1)
		refused(t, s+"9", 1)
		refused(t, " "+s, 1)
	}
	refused(t, strings.Repeat("\n", api.MaxText), api.MaxText+1)
	refused(t, strings.Repeat("\n", api.MaxText+1), 1)
	refused(t, strings.Repeat("\n", api.MaxText-1)+"x", api.MaxText)
	refused(t, strings.Repeat("\n", api.MaxText)+"x", 1)
	refused(t, strings.Repeat(good, 1000), 1)
	refused(t, strings.Repeat("\n", api.MaxText-2)+"é", api.MaxText-1) // bytes count, not runes
	refused(t, strings.Repeat("\n", api.MaxText-1)+"é", 1)
}
