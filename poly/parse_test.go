package poly

import (
	"fmt"
	"strings"
	"testing"

	"parquet/api"
)

func TestExample(t *testing.T) {
	if d, line := Parse("0 2 0 0\n0 0\n0"); line != 0 || len(d.V)+len(d.S)+len(d.H) != 0 {
		t.Errorf("P7.3: the example: %s, line %d", show(d), line)
	}
}

func TestParse(t *testing.T) {
	for i, c := range []struct {
		s    string
		want api.Drawing
	}{
		{"0 2 0 0\n0 0\n0\n", api.Drawing{}},
		{"0 2 2 1\n0 1\n0\n", api.Drawing{}},
		{"3 2 0 0\n1 0 0\n2 4 0\n3 0 4\n3 0\n1 1 2\n2 2 3\n3 3 1\n0\n", api.Drawing{V: []api.Vert{{}, {X: 4}, {Y: 4}}, S: []api.Seg{{A: 0, B: 1}, {A: 1, B: 2}, {A: 2, B: 0}}}},
		{"3 2 0 1\n0 0 0 5\n1 4 0 -6\n2 0 4 0\n3 1\n0 0 1 7\n1 1 2 0\n2 2 0 -8\n0\n", api.Drawing{V: []api.Vert{{Mark: 5}, {X: 4, Mark: -6}, {Y: 4}}, S: []api.Seg{{A: 0, B: 1, Mark: 7}, {A: 1, B: 2}, {A: 2, B: 0, Mark: -8}}}},
		{"1 2 0 0\n0 999999999 -999999999\n1 1\n1 0 0 999999999\n0", api.Drawing{V: []api.Vert{{X: 999999999, Y: -999999999}}, S: []api.Seg{{Mark: 999999999}}}}, // both ends may be one
		{"2 2 0 0\n0 3 3\n1 3 3\n0 0\n0", api.Drawing{V: []api.Vert{{X: 3, Y: 3}, {X: 3, Y: 3}}}},                                                                // two in one place, too
		{"0 2 0 0\n0 0\n1\n0 1/2 -22/7", api.Drawing{H: []api.Point{pt(t, "1/2", "-22/7")}}},
		{"0 2 0 0\n0 0\n3\n1 0 0\n2 -1 5/3\n3 0 0", api.Drawing{H: []api.Point{at(0, 0), pt(t, "-1", "5/3"), at(0, 0)}}},
	} {
		if d := parsed(t, c.s); show(d) != show(c.want) {
			t.Errorf("P7.1: row %d: %s, not %s", i, show(d), show(c.want))
		}
	}
}

// TestNumbering numbers vertices, segments, holes from 0 or from 1 on, each by itself; a segment's vertices as these are.
func TestNumbering(t *testing.T) {
	for i := range 8 {
		v, s, h := i&1, i>>1&1, i>>2
		text := fmt.Sprintf("3 2 0 0\n%d 5 6\n%d 7 8\n%d 9 9\n2 0\n%d %d %d\n%d %d %d\n2\n%d 1 2\n%d 3 4\n", v, v+1, v+2, s, v, v+2, s+1, v+1, v, h, h+1)
		d := parsed(t, text)
		want := api.Drawing{V: []api.Vert{{X: 5, Y: 6}, {X: 7, Y: 8}, {X: 9, Y: 9}}, S: []api.Seg{{A: 0, B: 2}, {A: 1, B: 0}}, H: []api.Point{at(1, 2), at(3, 4)}}
		if show(d) != show(want) {
			t.Errorf("P7.1: %q: %s", text, show(d))
		}
		l := rows(text)
		for _, line := range []int{2, 3, 4, 6, 7, 9, 10} {
			number, rest := int(l[line-1][0]-'0'), l[line-1][1:]
			for _, n := range []int{number - 2, number + 2} {
				refused(t, replaced(l, line, fmt.Sprint(n)+rest), line)
			}
		}
		for _, line := range []int{3, 4, 7, 10} { // behind the first one just one number may stand
			number, rest := int(l[line-1][0]-'0'), l[line-1][1:]
			for _, n := range []int{number - 1, number + 1} {
				refused(t, replaced(l, line, fmt.Sprint(n)+rest), line)
			}
		}
		for _, row := range []string{"%d %d %d", "%[1]d %[3]d %[2]d"} { // a vertex that there isn't: one below the first, one above the last
			refused(t, replaced(l, 6, fmt.Sprintf(row, s, v-1, v)), 6)
			refused(t, replaced(l, 6, fmt.Sprintf(row, s, v+3, v)), 6)
			refused(t, replaced(l, 7, fmt.Sprintf(row, s+1, v+3, v)), 7)
		}
	}
}

// TestTurnedNumbering: the first line alone says from where on, so where it is changed the one behind is wrong.
func TestTurnedNumbering(t *testing.T) {
	l := rows("2 2 0 0\n1 5 6\n2 7 8\n2 0\n1 1 2\n2 2 1\n2\n1 1 2\n2 3 4\n")
	refused(t, replaced(l, 2, "0 5 6"), 3)
	refused(t, replaced(l, 5, "0 1 2"), 6)
	refused(t, replaced(l, 8, "0 1 2"), 9)
}

// TestAttributes: so many words, any of them, that aren't kept; with marks and without.
func TestAttributes(t *testing.T) {
	any := []string{"1", "-0", "x", "1/0", "\"", "é", "\x00", "99999999999", "=", "0x1"}
	for k := range 3 {
		for m := range 2 {
			for _, a := range any {
				words := strings.Repeat(" "+a, k)
				mark, want := "", 0
				if m == 1 {
					mark, want = " -42", -42
				}
				s := fmt.Sprintf("2 2 %d %d\n0 3 4%s%s\n1 5 6%s%s\n0 0\n0\n", k, m, words, mark, words, mark)
				d := parsed(t, s)
				if show(d) != show(api.Drawing{V: []api.Vert{{X: 3, Y: 4, Mark: want}, {X: 5, Y: 6, Mark: want}}}) {
					t.Errorf("P7.1: %q: %s", s, show(d))
				}
				l := rows(s)
				refused(t, replaced(l, 2, l[1]+" 1"), 2)
				refused(t, replaced(l, 3, l[2]+" 1"), 3)
				refused(t, replaced(l, 3, "1 5 6"+strings.Repeat(" 1", k+m+1)), 3)
				if k+m > 0 {
					refused(t, replaced(l, 3, "1 5 6"+strings.Repeat(" 1", k+m-1)), 3)
				}
				if m == 1 { // where the mark is asked for no other word does
					refused(t, replaced(l, 3, "1 5 6"+words+" a"), 3)
				}
			}
		}
	}
}

// TestMarks: Q of 0 and of 1.
func TestMarks(t *testing.T) {
	const head = "2 2 0 0\n1 3 4\n2 5 6\n"
	for _, c := range []struct {
		s    string
		want api.Seg
	}{
		{"1 0\n1 1 2\n0", api.Seg{A: 0, B: 1}},
		{"1 1\n1 2 1 0\n0", api.Seg{A: 1, B: 0}},
		{"1 1\n0 1 2 9\n0", api.Seg{A: 0, B: 1, Mark: 9}},
		{"1 1\n0 1 1 -999999999\n0", api.Seg{Mark: -999999999}},
	} {
		if d := parsed(t, head+c.s); len(d.S) != 1 || d.S[0] != c.want {
			t.Errorf("P7.1: %q: %s", c.s, show(d))
		}
	}
	for _, s := range []string{"1 0\n1 1 2 0\n0", "1 1\n1 1 2\n0", "1 1\n1 1 2 a\n0", "1 1\n1 1 2 1000000000\n0", "1 1\n1 1 2 -0\n0", "1 1\n1 1 2 1/2\n0", "1 1\n1 1 2 3 4\n0"} {
		refused(t, head+s, 5)
	}
}

// TestLines: what lines are parted by, and where words stand in them, is lex's.
func TestLines(t *testing.T) {
	want := show(parsed(t, "1 2 1 1\n0 3 4 a 5\n1 1\n0 0 0 6\n1\n0 1/2 7\n"))
	for _, s := range []string{
		"1 2 1 1\n0 3 4 a 5\n1 1\n0 0 0 6\n1\n0 1/2 7",
		"1 2 1 1\r\n0 3 4 a 5\r\n1 1\r\n0 0 0 6\r\n1\r\n0 1/2 7\r\n",
		"# N 2 K M\n1 2 1 1\n\n \t\n0 3 4 a 5\n#\n1 1\n# 9 9 9\n0 0 0 6\n\n\n1\n\r\n0 1/2 7\n\n# none behind\n \n",
		" 1\t2  1 1 # x\n\t0 3 4 a 5#\n1 1#0\n0   0\t\t0 6 # 7\n1 # one\n0 1/2 7 # 8",
	} {
		if d := parsed(t, s); show(d) != want {
			t.Errorf("P7.1: %q: %s", s, show(d))
		}
	}
}

// TestWrongLineIsNamed: by its place among all lines, those that have no word, too.
func TestWrongLineIsNamed(t *testing.T) {
	const good = "# a\n1 2 0 0\n\n# b\n0 3 4\n\n1 0\n\n0 0 0\n#\n1\n\n\n0 1/2 7\n# c\n\n"
	parsed(t, good)
	l := rows(good)
	for _, line := range []int{2, 5, 7, 9, 11, 14} {
		refused(t, replaced(l, line, "?"), line)
		refused(t, replaced(l, line, l[line-1]+" ?"), line)
		refused(t, replaced(l, line, l[line-1]+" 0"), line)
	}
	refused(t, good+"?", 17)
	refused(t, replaced(l, 14, "# none"), 17)
	refused(t, strings.TrimSuffix(replaced(l, 14, "# none"), "\n"), 16)
}

// TestFirstWrongLine: of several the first is told, and what a line has wrong comes ahead of lines that lack or are too many.
func TestFirstWrongLine(t *testing.T) {
	refused(t, "1 2 0 0\n1 x 0\n1 0\n1 1 9\n0\n9", 2)
	refused(t, "1 2 0 0\n1 0 0\n1 0\n1 1 9\n0\n9", 4)
	refused(t, "1 2 0 0\n1 0 0\n1 0\n1 1 1\n0\n9\n8", 6)
	refused(t, "1 2 0 x", 1)
	refused(t, "1 2 0 0 0\n1 x 0", 1)
	refused(t, "1 2 0 0\n1 0 0\n2 0 0\n", 3) // a vertex too many: no P Q
	refused(t, "2 2 0 0\n1 0 0\n0 0\n0\n", 3)
}
