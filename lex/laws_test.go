package lex

import (
	"strconv"
	"strings"
	"testing"

	"parquet/api"
)

func TestExample(t *testing.T) {
	if l := Lines("1 2 # x"); len(l) != 1 || l[0].Number != 1 || len(l[0].Words) != 2 || l[0].Words[0] != "1" || l[0].Words[1] != "2" {
		t.Errorf("P6.2: Lines of the example: %s", show(l))
	}
}

// put writes each line where it is said to stand.
func put(l []api.Line, gap, end string) string {
	s, number := "", 1
	for _, line := range l {
		s += strings.Repeat(end, line.Number-number) + gap + strings.Join(line.Words, gap) + gap
		number = line.Number
	}
	return s
}

// TestWhatStandsWhere: lines that are put where they stood, with whatever parts them, are told again.
func TestWhatStandsWhere(t *testing.T) {
	s := source(88172645463325252)
	for range 500 {
		l := Lines(s.text("ab12 \t\r\n\n##-", 80))
		want := show(l)
		for _, gap := range []string{" ", "\t", "\r", " \t\r "} {
			for _, end := range []string{"\n", "\r\n", " #\n", "# a # b\n"} {
				if got := show(Lines(put(l, gap, end))); got != want {
					t.Fatalf("P6.2: put again: %s, not %s", got, want)
				}
			}
		}
	}
}

// TestWordsStandThere: a line's words stand in the text's line of that number, in that order, and the numbers rise.
func TestWordsStandThere(t *testing.T) {
	s := source(362436069362436069)
	for range 2000 {
		text := s.text("ab12 \t\r\n\n##-", 80)
		rows, before := strings.Split(text, "\n"), 0
		for _, line := range Lines(text) {
			if line.Number <= before || line.Number > len(rows) || len(line.Words) == 0 {
				t.Fatalf("P6.2: Lines of %q: number %d behind %d, %d words", text, line.Number, before, len(line.Words))
			}
			row := rows[line.Number-1]
			for _, w := range line.Words {
				i := strings.Index(row, w)
				if w == "" || i < 0 || strings.ContainsAny(w, " \t\r\n#") {
					t.Fatalf("P6.2: Lines of %q: line %d has no word %q", text, line.Number, w)
				}
				row = row[i+len(w):]
			}
			before = line.Number
		}
	}
}

// TestIntIsWritten: each number is read as it is written, and what is read is written so.
func TestIntIsWritten(t *testing.T) {
	for n := -1100; n <= 1100; n++ {
		if got, ok := Int(strconv.Itoa(n)); got != n || !ok {
			t.Fatalf("P6.2: Int of %d: %d, %v", n, got, ok)
		}
	}
	texts("017-+", 6, func(s string) {
		if n, ok := Int(s); ok && strconv.Itoa(n) != s {
			t.Fatalf("P6.2: Int of %q: %d", s, n)
		}
	})
}
