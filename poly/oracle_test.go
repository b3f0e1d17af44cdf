package poly

import (
	"fmt"
	"math/big"
	"regexp"
	"slices"
	"strconv"
	"strings"
	"testing"

	"parquet/api"
)

var (
	whole    = regexp.MustCompile(`\A(0|-?[1-9][0-9]{0,8})\z`)
	fraction = regexp.MustCompile(`\A(0|-?[1-9][0-9]*)(/[1-9][0-9]*)?\z`)
)

// oracle reads whole texts by a queue of what each line must be: a heading puts what its list wants behind itself.
type oracle struct {
	d     api.Drawing
	first int
	wants []func(words []string) bool
}

// wantParse tells what Parse is to answer.
func wantParse(t testing.TB, s string) (api.Drawing, int) {
	if len(s) > 4000 {
		return api.Drawing{}, 1
	}
	o := &oracle{}
	o.wants = []func(words []string) bool{o.vertices, o.segments, func(w []string) bool { return o.holes(t, w) }}
	all := strings.SplitAfter(s, "\n")
	if all[len(all)-1] == "" {
		all = all[:len(all)-1]
	}
	for i, row := range all {
		row, _, _ = strings.Cut(row, "#")
		words := strings.FieldsFunc(row, func(r rune) bool { return strings.ContainsRune(" \t\r\n", r) })
		if len(words) == 0 {
			continue
		}
		if len(o.wants) == 0 {
			return api.Drawing{}, i + 1
		}
		want := o.wants[0]
		o.wants = o.wants[1:]
		if !want(words) {
			return api.Drawing{}, i + 1
		}
	}
	if len(o.wants) > 0 {
		return api.Drawing{}, len(all) + 1
	}
	return o.d, 0
}

// ints tells the numbers of these words, if all are such.
func ints(words []string) ([]int, bool) {
	var l []int
	for _, w := range words {
		if !whole.MatchString(w) {
			return nil, false
		}
		n, _ := strconv.Atoi(w)
		l = append(l, n)
	}
	return l, true
}

// many puts count lines ahead of all that is wanted; each is to begin with its number.
func (o *oracle) many(count int, first *int, want func(words []string) bool) {
	var l []func(words []string) bool
	for i := range count {
		l = append(l, func(words []string) bool {
			n, ok := ints(words[:1])
			if !ok || i == 0 && n[0] != 0 && n[0] != 1 || i > 0 && n[0] != i+*first {
				return false
			}
			if i == 0 {
				*first = n[0]
			}
			return want(words[1:])
		})
	}
	o.wants = append(l, o.wants...)
}

func (o *oracle) vertices(words []string) bool {
	h, ok := ints(words)
	if !ok || len(h) != 4 || h[0] < 0 || h[0] > 1000 || h[1] != 2 || h[2] < 0 || h[2] > 2 || h[3] < 0 || h[3] > 1 {
		return false
	}
	o.many(h[0], &o.first, func(words []string) bool {
		if len(words) != 2+h[2]+h[3] {
			return false
		}
		l, ok := ints(append(slices.Clone(words[:2]), words[2+h[2]:]...))
		if ok {
			l = append(l, 0)
			o.d.V = append(o.d.V, api.Vert{X: l[0], Y: l[1], Mark: l[2]})
		}
		return ok
	})
	return true
}

func (o *oracle) segments(words []string) bool {
	h, ok := ints(words)
	if !ok || len(h) != 2 || h[0] < 0 || h[0] > 1000 || h[1] < 0 || h[1] > 1 {
		return false
	}
	o.many(h[0], new(int), func(words []string) bool {
		l, ok := ints(words)
		if !ok || len(l) != 2+h[1] {
			return false
		}
		l = append(l, 0)
		a, b := l[0]-o.first, l[1]-o.first
		o.d.S = append(o.d.S, api.Seg{A: a, B: b, Mark: l[2]})
		return a >= 0 && b >= 0 && a < len(o.d.V) && b < len(o.d.V)
	})
	return true
}

func (o *oracle) holes(t testing.TB, words []string) bool {
	h, ok := ints(words)
	if !ok || len(h) != 1 || h[0] < 0 || h[0] > 1000 {
		return false
	}
	o.many(h[0], new(int), func(words []string) bool {
		var l []api.Rat
		for _, w := range words {
			if !fraction.MatchString(w) {
				return false
			}
			x, _ := new(big.Rat).SetString(w)
			if x.RatString() != w || x.Num().BitLen() > 1024 || x.Denom().BitLen() > 1024 {
				return false
			}
			l = append(l, fromBig(t, x))
		}
		if len(l) != 2 {
			return false
		}
		o.d.H = append(o.d.H, api.Point{X: l[0], Y: l[1]})
		return true
	})
	return true
}

// ask holds Parse against the oracle, and tells whether s was read.
func ask(t testing.TB, s string) bool {
	t.Helper()
	d, line := Parse(s)
	want, wantLine := wantParse(t, s)
	if line != wantLine || show(d) != show(want) {
		t.Fatalf("P7.1: %q: line %d, %s, not line %d, %s", s, line, show(d), wantLine, show(want))
	}
	return line == 0
}

// text tells d in one of the ways that it may be told in, one row a line.
func (s *source) text(d api.Drawing) []string {
	k, first := s.below(3), [3]int{s.below(2), s.below(2), s.below(2)}
	m, q := 0, 0
	if s.below(3) > 0 || slices.ContainsFunc(d.V, func(v api.Vert) bool { return v.Mark != 0 }) {
		m = 1
	}
	if s.below(3) > 0 || slices.ContainsFunc(d.S, func(x api.Seg) bool { return x.Mark != 0 }) {
		q = 1
	}
	l := []string{fmt.Sprint(len(d.V), 2, k, m)}
	for i, v := range d.V {
		row := fmt.Sprint(i+first[0], v.X, v.Y)
		for range k {
			row += " " + one(s, "0", "1", "-5", "a", "1.5", "é", "1/2")
		}
		l = append(l, row+strings.Repeat(" "+strconv.Itoa(v.Mark), m))
	}
	l = append(l, fmt.Sprint(len(d.S), q))
	for i, x := range d.S {
		l = append(l, fmt.Sprint(i+first[1], x.A+first[0], x.B+first[0])+strings.Repeat(" "+strconv.Itoa(x.Mark), q))
	}
	l = append(l, fmt.Sprint(len(d.H)))
	for i, h := range d.H {
		l = append(l, strings.Join([]string{strconv.Itoa(i + first[2]), bigText(h.X), bigText(h.Y)}, " "))
	}
	return l
}

func bigText(a api.Rat) string {
	n, d := new(big.Int), new(big.Int)
	for i := api.Words - 1; i >= 0; i-- {
		n.Or(n.Lsh(n, 32), big.NewInt(int64(a.N.D[i])))
		d.Or(d.Lsh(d, 32), big.NewInt(int64(a.D.D[i])))
	}
	if a.N.Neg {
		n.Neg(n)
	}
	return new(big.Rat).SetFrac(n, d).RatString()
}

// loose joins rows, with marks and blank lines between.
func (s *source) loose(l []string) string {
	text := ""
	for i, row := range l {
		for s.below(6) == 0 {
			text += one(s, "\n", " \n", "# a\n", "\t#1 2\r\n", "\r\n")
		}
		if s.below(5) == 0 {
			row = strings.ReplaceAll(row, " ", one(s, "  ", "\t", " \t ", "\r"))
		}
		text += one(s, "", "", " ", "\t") + row + one(s, "", "", " ", "\r", "# b", " # 1")
		if i < len(l)-1 || s.below(2) == 0 {
			text += "\n"
		}
	}
	for s.below(6) == 0 && strings.HasSuffix(text, "\n") {
		text += one(s, "\n", " \n", "# a\n")
	}
	return text
}

// TestMany tells drawings in all ways there are.
func TestMany(t *testing.T) {
	s := source(88172645463325252)
	for range 3000 {
		d := s.drawing()
		if s.below(3) == 0 {
			for i := range d.V {
				d.V[i].Mark = 0
			}
			for i := range d.S {
				d.S[i].Mark = 0
			}
		}
		text := s.loose(s.text(d))
		if got := parsed(t, text); show(got) != show(d) {
			t.Fatalf("P7.1: %q: %s, not %s", text, show(got), show(d))
		}
		ask(t, text)
	}
}

// spoilt changes a word or a line.
func (s *source) spoilt(l []string) []string {
	l = slices.Clone(l)
	if len(l) == 0 {
		return l
	}
	i := s.below(len(l))
	words := strings.Fields(l[i])
	at := s.below(len(words) + 1)
	odd := one(s, "0", "1", "2", "3", "-1", "4", "5", "1001", "1000000000", "x", "1/2", "2/4", "-0", "00", "+1", "#", "")
	switch k := min(at, len(words)-1); {
	case s.below(8) == 0:
		return slices.Delete(l, i, i+1)
	case s.below(8) == 0:
		return slices.Insert(l, i, l[s.below(len(l))])
	case s.below(8) == 0:
		return l[:i]
	case s.below(3) == 0 || k < 0:
		words = slices.Insert(words, at, odd)
	case s.below(3) == 0:
		words = slices.Delete(words, k, k+1)
	default:
		words[k] = odd
	}
	l[i] = strings.Join(words, " ")
	return l
}

// TestManySpoilt changes texts in one place or in a few.
func TestManySpoilt(t *testing.T) {
	s := source(362436069362436069)
	read, wrong := 0, 0
	for range 20000 {
		l := s.text(s.drawing())
		for range 1 + s.below(3) {
			l = s.spoilt(l)
		}
		if ask(t, s.loose(l)) {
			read++
		} else {
			wrong++
		}
	}
	if read < 300 || wrong < 10000 {
		t.Errorf("no test of both: %d read, %d wrong", read, wrong)
	}
}

// TestEachByte cuts a text at each byte, takes each away, and changes each for each other that means something.
func TestEachByte(t *testing.T) {
	for _, s := range []string{good, "# a\n\n 1 2 2 1\r\n0 5 -6 x\ty 7 # b\n\n3 1\n1 0 0 4\n2 0 0 -5\n3 0 0 6\n#\n2\n0 1/2 -7/3\n1 8 0\n\n# c"} {
		parsed(t, s)
		for i := range s {
			ask(t, s[:i])
			ask(t, s[:i]+s[i+1:])
			for _, c := range "0123-/ \n\t\r#x\x00\v" {
				ask(t, s[:i]+string(c)+s[i:])
				ask(t, s[:i]+string(c)+s[i+1:])
			}
		}
	}
}

// TestAllShortLines tries each short row as each line of a text.
func TestAllShortLines(t *testing.T) {
	words := []string{"-1", "0", "1", "2", "3", "x"}
	var try func(row string, left int)
	try = func(row string, left int) {
		ask(t, row+"\n0 0\n0")
		ask(t, "1 2 0 0\n"+row+"\n0 0\n0")
		ask(t, "2 2 0 1\n1 0 0 0\n"+row+"\n0 0\n0")
		ask(t, "0 2 0 0\n"+row+"\n0")
		ask(t, "1 2 0 0\n0 0 0\n1 0\n"+row+"\n0")
		ask(t, "2 2 0 0\n1 0 0\n2 0 0\n2 1\n0 1 2 0\n"+row+"\n0")
		ask(t, "0 2 0 0\n0 0\n"+row)
		ask(t, "0 2 0 0\n0 0\n1\n"+row)
		ask(t, "0 2 0 0\n0 0\n2\n0 0 0\n"+row+"\n")
		ask(t, "0 2 0 0\n0 0\n0\n"+row)
		for _, w := range words {
			if left > 0 {
				try(row+" "+w, left-1)
			}
		}
	}
	try("", 5)
}

// TestNoise hands over texts of anything.
func TestNoise(t *testing.T) {
	s := source(521288629521288629)
	for range 3000 {
		text := ""
		for range s.below(40) {
			text += one(&s, "0", "1", "2", "3", " ", " ", "\n", "-", "/", "#", "x", "\x00", "\xff", "é", "\r", "\t", "0 2 0 0\n", "0 0\n")
		}
		ask(t, text)
		ask(t, "0 2 0 0\n0 0\n"+text)
	}
}
