package lex

import (
	"regexp"
	"strconv"
	"strings"
	"testing"

	"parquet/api"
)

var (
	number  = regexp.MustCompile(`\A(0|-?[1-9][0-9]{0,8})\z`)
	between = strings.NewReplacer("\t", " ", "\r", " ")
)

// wantLines tells the lines by splitting whole texts, again and again.
func wantLines(s string) []api.Line {
	l := []api.Line{}
	for i, row := range strings.Split(s, "\n") {
		line := api.Line{Number: i + 1}
		for _, w := range strings.Split(between.Replace(strings.Split(row, "#")[0]), " ") {
			if len(w) > 0 {
				line.Words = append(line.Words, w)
			}
		}
		if len(line.Words) > 0 {
			l = append(l, line)
		}
	}
	return l
}

// wantInt tells the number by a pattern.
func wantInt(s string) (int, bool) {
	if !number.MatchString(s) {
		return 0, false
	}
	n, _ := strconv.Atoi(s)
	return n, true
}

func askLines(t *testing.T, s string) {
	t.Helper()
	if got, want := show(Lines(s)), show(wantLines(s)); got != want {
		t.Fatalf("P6.1: Lines of %q: %s, not %s", s, got, want)
	}
}

func askInt(t *testing.T, s string) {
	t.Helper()
	n, ok := Int(s)
	if want, is := wantInt(s); n != want || ok != is {
		t.Fatalf("P6.1: Int of %q: %d, %v, not %d, %v", s, n, ok, want, is)
	}
}

// TestAllLines: each short text of what parts and of what doesn't.
func TestAllLines(t *testing.T) {
	texts("a\n\t\r #", 6, func(s string) { askLines(t, s) })
	texts("b# \n", 8, func(s string) { askLines(t, s) })
}

// TestEachByteInLines: just five of them aren't of a word.
func TestEachByteInLines(t *testing.T) {
	for b := range 256 {
		c := string([]byte{byte(b)})
		for _, s := range []string{c, "a" + c, c + "a", "a" + c + "b", "a" + c + c + "b", "a\n" + c + "\nb", "a#" + c + "b", "a#" + c + "\n" + c + "b"} {
			askLines(t, s)
		}
	}
}

func TestManyLines(t *testing.T) {
	s := source(88172645463325252)
	for range 4000 {
		askLines(t, s.text("ab12 \t\r\n\n##-", 60))
	}
	askLines(t, s.text("ab12 \t\r\n\n##-", 1<<20))
}

// TestAllInts: each short word of what a number has and of what it hasn't.
func TestAllInts(t *testing.T) {
	texts("0159-+ ", 6, func(s string) { askInt(t, s) })
	texts("09-a", 8, func(s string) { askInt(t, s) })
	texts("01", 11, func(s string) {
		askInt(t, s)
		askInt(t, "-"+s)
	})
}

// TestEachByteInInts: just the digits are of a number, in each place; a sign ahead of it.
func TestEachByteInInts(t *testing.T) {
	for b := range 256 {
		c := string([]byte{byte(b)})
		for _, s := range []string{c, "1" + c, c + "1", "1" + c + "2", "-" + c, "-1" + c, "-" + c + "1", "12345678" + c, c + "12345678", "1234" + c + "5678", "123456789" + c, c + "123456789", "-" + c + "23456789"} {
			askInt(t, s)
		}
	}
}

func TestManyInts(t *testing.T) {
	s := source(88172645463325252)
	for range 20000 {
		n := int(int64(s.next()) >> (s.next() % 64))
		askInt(t, strconv.Itoa(n))
		askInt(t, "0"+strconv.Itoa(n))
		askInt(t, s.text("0123456789-", 12))
	}
}
