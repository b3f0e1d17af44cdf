package option

import (
	"regexp"
	"strconv"
	"strings"
	"testing"

	"parquet/api"
)

// pattern has the words as they may be written: a letter and as many numbers as belong to it.
var pattern = func() *regexp.Regexp {
	const n = `(0|-?[1-9][0-9]{0,8})`
	return regexp.MustCompile(`^(?:h` + n + `|c` + n + `|s` + n + `,` + n + `,` + n + `)$`)
}()

// oracle reads words by the pattern.
func oracle(l ...string) (api.Options, bool) {
	o := asked(64, 4096)
	for _, w := range l {
		m := pattern.FindStringSubmatch(w)
		if m == nil {
			return api.Options{}, false
		}
		var n [6]int
		for i := 1; i < len(m); i++ {
			n[i], _ = strconv.Atoi(m[i])
		}
		switch w[0] {
		case 'h':
			o.H = n[1]
		case 'c':
			o.Cap = n[2]
		default:
			o.Sizes = append(o.Sizes, size(n[3], n[4], n[5]))
		}
	}
	if !oracleIs(o) {
		return api.Options{}, false
	}
	return o, true
}

func oracleIs(o api.Options) bool {
	is := isPower(o.H) && o.Cap >= 1 && o.Cap <= 4096 && len(o.Sizes) <= 4
	for _, s := range o.Sizes {
		is = is && isPower(s.H) && s.X >= 0 && s.X <= 64 && s.Y >= 0 && s.Y <= 64
	}
	return is
}

// against holds Parse against the oracle, and tells whether the words are right.
func against(t *testing.T, l ...string) bool {
	t.Helper()
	o, ok := Parse(l...)
	want, is := oracle(l...)
	if ok != is || show(o) != show(want) {
		t.Fatalf("P8.1: Parse of %q: %s, %v, not %s, %v", l, show(o), ok, show(want), is)
	}
	return ok
}

// TestShortWords holds all words of at most five of these letters against the oracle.
func TestShortWords(t *testing.T) {
	right := 0
	var grow func(w string, left int)
	grow = func(w string, left int) {
		if against(t, w) {
			right++
		}
		if left == 0 {
			return
		}
		for _, c := range "hcs,-0146 " {
			grow(w+string(c), left-1)
		}
	}
	grow("", 5)
	if right < 100 {
		t.Errorf("P8.1: just %d short words are right", right)
	}
}

// TestSpoilt holds words of which a byte is put in, taken out or changed against the oracle.
func TestSpoilt(t *testing.T) {
	s, right := source(88172645463325252), 0
	for range 20000 {
		l := strings.Fields(Print(s.options()))
		for range s.below(3) {
			i := s.below(len(l))
			l[i] = s.spoilt(l[i])
		}
		if against(t, l...) {
			right++
		}
	}
	if right < 5000 || right > 15000 {
		t.Errorf("P8.1: %d of 20000 are right", right)
	}
}

// spoilt tells w with one byte other than it was.
func (s *source) spoilt(w string) string {
	i, c := s.below(len(w)+1), one(s, strings.Split("hcs,,-0123456789 x", "")...)
	if i == len(w) || s.below(3) == 0 {
		return w[:i] + c + w[i:]
	}
	return w[:i] + one(s, c, "") + w[i+1:]
}

// TestShuffled holds random words, right and wrong ones, in any order against the oracle.
func TestShuffled(t *testing.T) {
	s := source(362436069362436069)
	for range 20000 {
		var l []string
		for range s.below(8) {
			l = append(l, one(&s, "h1", "h2", "h64", "h8", "h3", "h0", "c1", "c4096", "c77", "c0", "c4097", "s0,0,1", "s64,64,64", "s1,2,4", "s3,4,8", "s5,6,2", "s65,0,1", "h", "x"))
		}
		against(t, l...)
	}
}

// TestIsAgainst holds Is at random options against the oracle.
func TestIsAgainst(t *testing.T) {
	s := source(521288629521288629)
	for range 20000 {
		o := s.options()
		for range s.below(2) {
			n := one(&s, around()...)
			switch i := s.below(len(o.Sizes)*3 + 2); {
			case i == 0:
				o.H = n
			case i == 1:
				o.Cap = n
			case i%3 == 2:
				o.Sizes[i/3].X = n
			case i%3 == 0:
				o.Sizes[i/3-1].Y = n
			default:
				o.Sizes[i/3-1].H = n
			}
		}
		if got, want := Is(o), oracleIs(o); got != want {
			t.Fatalf("P8.1: Is of %s: %v", show(o), got)
		}
	}
}
