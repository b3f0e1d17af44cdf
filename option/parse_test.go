package option

import (
	"strconv"
	"strings"
	"testing"

	"parquet/api"
)

func TestParse(t *testing.T) {
	for s, want := range map[string]api.Options{
		"":                        asked(64, 4096),
		"h4":                      asked(4, 4096),
		"c9":                      asked(64, 9),
		"h8 c7":                   asked(8, 7),
		"c7 h8":                   asked(8, 7),
		"s1,2,4":                  asked(64, 4096, size(1, 2, 4)),
		"s3,5,2 h16":              asked(16, 4096, size(3, 5, 2)),
		"c1 s0,0,1 h1":            asked(1, 1, size(0, 0, 1)),
		"s64,64,64 c4096 h64":     asked(64, 4096, size(64, 64, 64)),
		"s0,64,32 s64,0,16":       asked(64, 4096, size(0, 64, 32), size(64, 0, 16)),
		"s10,20,8 c100 s30,40,16": asked(64, 100, size(10, 20, 8), size(30, 40, 16)),
	} {
		parsed(t, want, strings.Fields(s)...)
	}
}

// TestParseNothing: no word at all asks for the greatest squares, and as many as may be.
func TestParseNothing(t *testing.T) {
	parsed(t, asked(64, 4096))
	parsed(t, asked(64, 4096), []string{}...)
	parsed(t, asked(64, 4096), []string(nil)...)
	parsed(t, asked(64, 4096), []string{"h4", "x"}[:0]...)
}

// TestParseEach asks each number of a word for what it may be.
func TestParseEach(t *testing.T) {
	for n := -130; n <= 8200; n++ {
		s := strconv.Itoa(n)
		for _, c := range []struct {
			word string
			want api.Options
			ok   bool
		}{
			{"h" + s, asked(n, 4096), isPower(n)},
			{"c" + s, asked(64, n), n >= 1 && n <= 4096},
			{"s" + s + ",5,4", asked(64, 4096, size(n, 5, 4)), n >= 0 && n <= 64},
			{"s5," + s + ",4", asked(64, 4096, size(5, n, 4)), n >= 0 && n <= 64},
			{"s5,5," + s, asked(64, 4096, size(5, 5, n)), isPower(n)},
		} {
			if c.ok {
				parsed(t, c.want, c.word)
			} else {
				refused(t, c.word)
			}
		}
	}
}

// TestParseLast: H is what the last word of it says, so is Cap; an earlier one may be anything that is a word.
func TestParseLast(t *testing.T) {
	for s, want := range map[string]api.Options{
		"h1 h2":                   asked(2, 4096),
		"h2 h1":                   asked(1, 4096),
		"h1 h64 h8":               asked(8, 4096),
		"h4 h4":                   asked(4, 4096),
		"c1 c2":                   asked(64, 2),
		"c4096 c1":                asked(64, 1),
		"c5 c7 c6":                asked(64, 6),
		"h1 c1 h2":                asked(2, 1),
		"c3 h1 c2 h2 c1":          asked(2, 1),
		"h2 s1,2,4 h16 c5 c64":    asked(16, 64, size(1, 2, 4)),
		"h3 h4":                   asked(4, 4096),
		"h0 h-5 h999999999 h8 c2": asked(8, 2),
		"c0 c1":                   asked(64, 1),
		"c-999999999 c4097 c4096": asked(64, 4096),
	} {
		parsed(t, want, strings.Fields(s)...)
	}
	for _, s := range []string{"h4 h3", "h4 h0", "h4 h128", "h4 h-4", "c1 c0", "c1 c4097", "c1 c-1", "h4 c1 h5 c2", "h4 c1 h2 c0"} {
		refused(t, strings.Fields(s)...)
	}
}

// TestParseSizes: sizes stand in the order of their words, alike ones too, at most MaxSizes of them.
func TestParseSizes(t *testing.T) {
	parsed(t, asked(64, 4096, size(4, 3, 2), size(1, 2, 4), size(4, 3, 2)), "s4,3,2", "s1,2,4", "s4,3,2")
	parsed(t, asked(2, 9, size(1, 1, 1), size(3, 3, 1), size(2, 2, 1), size(0, 0, 1)), "s1,1,1", "h2", "s3,3,1", "c9", "s2,2,1", "s0,0,1")
	for n := range 12 {
		var l []string
		for range n {
			l = append(l, "s1,2,4", "h8")
		}
		if n == 0 {
			parsed(t, asked(64, 4096), l...)
		} else if n <= 4 {
			parsed(t, asked(8, 4096, alike(n, size(1, 2, 4))...), l...)
		} else {
			refused(t, l...)
		}
	}
}

// TestParseMany: as many words as one likes.
func TestParseMany(t *testing.T) {
	var l []string
	for n := range 100000 {
		l = append(l, "h"+strconv.Itoa(n), "c"+strconv.Itoa(n))
	}
	refused(t, l...)
	parsed(t, asked(32, 7), append(l, "h32", "c7")...)
	many := make([]string, 100000)
	for i := range many {
		many[i] = "s1,2,4"
	}
	refused(t, many...)
}
