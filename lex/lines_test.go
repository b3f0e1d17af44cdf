package lex

import (
	"strings"
	"testing"
	"unsafe"

	"parquet/api"
)

func TestLines(t *testing.T) {
	for _, c := range []struct{ s, want string }{
		{"1 2 # x", `1 "1" "2"`},
		{"a", `1 "a"`},
		{"a\n", `1 "a"`},
		{"a\nb", `1 "a"; 2 "b"`},
		{"a\nb\n", `1 "a"; 2 "b"`},
		{"a b c\n d e\nf\n", `1 "a" "b" "c"; 2 "d" "e"; 3 "f"`},
		{"a\tb\rc d", `1 "a" "b" "c" "d"`},
		{" \t\r a\t\r b \r\n", `1 "a" "b"`},
		{"a\r\nb\r\n", `1 "a"; 2 "b"`},
		{"a a a", `1 "a" "a" "a"`},
		{"4 2 0 1 # vertices\n\n1 0 0 5\n# a mark\n2 8 0 -5\r\n", `1 "4" "2" "0" "1"; 3 "1" "0" "0" "5"; 5 "2" "8" "0" "-5"`},
	} {
		if got := show(Lines(c.s)); got != c.want {
			t.Errorf("P6.1: Lines of %q: %s, not %s", c.s, got, c.want)
		}
	}
}

// TestLinesWithoutWord: a line with nothing but what parts, or a mark, isn't told.
func TestLinesWithoutWord(t *testing.T) {
	empty := []string{"", " ", "\t", "\r", " \t\r \r\t", "#", "##", "# a", "#a", " #", "\t# a # b", "\r#\r"}
	for _, s := range append(empty, strings.Join(empty, "\n"), strings.Join(empty, "\n")+"\n", "\n", "\n\n\n") {
		if l := Lines(s); len(l) != 0 {
			t.Errorf("P6.1: Lines of %q: %s", s, show(l))
		}
	}
}

// TestLinesAreCounted: what isn't told is counted, too.
func TestLinesAreCounted(t *testing.T) {
	for _, c := range []struct{ s, want string }{
		{"\na", `2 "a"`},
		{"\n\n\na\n\n", `4 "a"`},
		{"# a\nb", `2 "b"`},
		{" \n\t\n\r\n#\na\n \nb\n#", `5 "a"; 7 "b"`},
		{"a\n\nb\n\n\nc", `1 "a"; 3 "b"; 6 "c"`},
		{strings.Repeat("\n", 9999) + "a", `10000 "a"`},
	} {
		if got := show(Lines(c.s)); got != c.want {
			t.Errorf("P6.1: Lines of %.20q: %s, not %s", c.s, got, c.want)
		}
	}
}

// TestRemarks: from the first mark on, to the end of its line, there is no word.
func TestRemarks(t *testing.T) {
	for _, c := range []struct{ s, want string }{
		{"a#", `1 "a"`},
		{"a#b", `1 "a"`},
		{"a #b", `1 "a"`},
		{"a# b c", `1 "a"`},
		{"a##b", `1 "a"`},
		{"a#b#c d", `1 "a"`},
		{"a # b # c\nd", `1 "a"; 2 "d"`},
		{"#a\nb#\n#c", `2 "b"`},
		{"##a\nb", `2 "b"`},
		{"a #\rb\tc\nd", `1 "a"; 2 "d"`},
	} {
		if got := show(Lines(c.s)); got != c.want {
			t.Errorf("P6.1: Lines of %q: %s, not %s", c.s, got, c.want)
		}
	}
}

// TestOtherBytes: what other texts take for a blank or an end of a line is of a word.
func TestOtherBytes(t *testing.T) {
	for _, w := range []string{"\v", "\f", "\x00", "\x1a", "\x85", "\xa0", "\xff", "\u0085", "\u00a0", "\u2003", "\u2028", "\u3000", "\ufeff", "é", "\xc3", "\xe2\x80", "a\vb", "a\x00b", "a\u00a0b", "a\u2028b", "\\n", "//", ";", "＃"} {
		for _, s := range []string{w, " " + w, w + "\n", "\t" + w + "#" + w} {
			if l := Lines(s); len(l) != 1 || l[0].Number != 1 || len(l[0].Words) != 1 || l[0].Words[0] != w {
				t.Errorf("P6.1: Lines of %q: %s", s, show(l))
			}
		}
	}
}

// TestLongLines: there is no limit to a text, a line or a word here.
func TestLongLines(t *testing.T) {
	long := strings.Repeat("x", 100*api.MaxText)
	if l := Lines(long + " " + long); len(l) != 1 || len(l[0].Words) != 2 || l[0].Words[0] != long || l[0].Words[1] != long {
		t.Errorf("P6.1: two long words aren't told")
	}
	if l := Lines(strings.Repeat("a b\n", 50000)); len(l) != 50000 || l[49999].Number != 50000 || len(l[49999].Words) != 2 {
		t.Errorf("P6.1: of 50000 lines %d are told", len(l))
	}
	if l := Lines(strings.Repeat("a ", 50000)); len(l) != 1 || len(l[0].Words) != 50000 {
		t.Errorf("P6.1: 50000 words aren't told")
	}
}

// spoil overwrites all that hangs on l, the spare room too.
func spoil(l []api.Line) {
	l = l[:cap(l)]
	for i := range l {
		spoilWords(l[i].Words)
		l[i] = api.Line{Number: -1, Words: []string{"spoilt"}}
	}
}

func spoilWords(l []string) {
	l = l[:cap(l)]
	for i := range l {
		l[i] = "spoilt"
	}
}

// TestAnswersAreNew: no answer, and no list of one, is touched by what is done with another.
func TestAnswersAreNew(t *testing.T) {
	s := "a b c\nd\n\ne f # g\nh i j k l"
	want := show(Lines(s))
	first, second := Lines(s), Lines(s)
	spoil(first)
	if got := show(second); got != want {
		t.Errorf("P6.1: after another answer was changed: %s, not %s", got, want)
	}
	if got := show(Lines(s)); got != want {
		t.Errorf("P6.1: after an answer was changed: %s, not %s", got, want)
	}
	for i := range second {
		l := Lines(s)
		spoilWords(l[i].Words)
		l[i] = second[i]
		if got := show(l); got != want {
			t.Errorf("P6.1: after the words of place %d were changed: %s, not %s", i, got, want)
		}
	}
}

// TestWordsAreCopies: no word lies in the text's own memory.
func TestWordsAreCopies(t *testing.T) {
	s := string([]byte("ab cd\nef #\n gh"))
	from := uintptr(unsafe.Pointer(unsafe.StringData(s)))
	for _, line := range Lines(s) {
		for _, w := range line.Words {
			if p := uintptr(unsafe.Pointer(unsafe.StringData(w))); p >= from && p < from+uintptr(len(s)) {
				t.Errorf("P6.1: %q lies in the text", w)
			}
		}
	}
}
