package option

import (
	"slices"
	"strings"
	"sync"
	"testing"

	"parquet/api"
)

func TestExample(t *testing.T) {
	if o, ok := Parse("h4"); o.H != 4 || !ok {
		t.Errorf("P8.2: Parse of the example: %s, %v", show(o), ok)
	}
}

// TestWhatIsAskedFor: what is printed of options that may be is parsed as they are.
func TestWhatIsAskedFor(t *testing.T) {
	s := source(88172645463325252)
	for range 20000 {
		o := s.options()
		if got, ok := Parse(strings.Split(Print(o), " ")...); show(got) != show(o) || !ok {
			t.Fatalf("P8.2: %s, printed and parsed: %s, %v", show(o), show(got), ok)
		}
	}
}

// TestWhatMayNotBe: what is printed of options that may not be is parsed as nothing.
func TestWhatMayNotBe(t *testing.T) {
	for _, n := range around() {
		for _, o := range []api.Options{asked(n, 5), asked(4, n), asked(4, 5, size(n, 1, 1)), asked(4, 5, size(1, n, 1)), asked(4, 5, size(1, 1, n))} {
			got, ok := Parse(strings.Split(Print(o), " ")...)
			if ok != Is(o) || ok && show(got) != show(o) {
				t.Fatalf("P8.2: %s, printed and parsed: %s, %v", show(o), show(got), ok)
			}
		}
	}
	refused(t, strings.Split(Print(asked(4, 5, alike(5, size(1, 1, 1))...)), " ")...)
}

// TestWordsUntouched: words that are handed in, and those behind them, are left as they were.
func TestWordsUntouched(t *testing.T) {
	l := []string{"h4", "c9", "s1,2,4", "s3,4,8", "x", "s5,6,16"}
	was := slices.Clone(l)
	Parse(l[:4]...)
	Parse(l...)
	if !slices.Equal(l, was) {
		t.Errorf("P8.1: Parse changed the words: %q", l)
	}
}

// TestOptionsUntouched: options that are handed in, and the spare room behind their sizes, are left as they were.
func TestOptionsUntouched(t *testing.T) {
	for _, o := range []api.Options{asked(64, 4096), asked(4, 9, size(1, 2, 4), size(3, 4, 8)), asked(3, -1, size(-1, 2, 3)), asked(1, 1, alike(6, size(1, 2, 4))...)} {
		c := copied(o)
		was := show(c) + spared(c)
		Is(c)
		Print(c)
		if show(c)+spared(c) != was {
			t.Errorf("P8.1: Is and Print changed %s to %s", was, show(c)+spared(c))
		}
	}
}

// TestNothingKept: what is done with an answer, its spare room too, or with the words, isn't seen in another answer.
func TestNothingKept(t *testing.T) {
	l := []string{"h4", "s1,2,4", "c9", "s3,4,8", "s3,4,8"}
	want := asked(4, 9, size(1, 2, 4), size(3, 4, 8), size(3, 4, 8))
	a, _ := Parse(l...)
	b, _ := Parse(l...)
	for i := range a.Sizes[:cap(a.Sizes)] {
		a.Sizes[:cap(a.Sizes)][i] = size(-1, -1, -1)
	}
	if show(b) != show(want) {
		t.Errorf("P8.1: another answer changed this one: %s", show(b))
	}
	clear(l)
	if show(b) != show(want) {
		t.Errorf("P8.1: the words changed an answer: %s", show(b))
	}
	parsed(t, want, "h4", "s1,2,4", "c9", "s3,4,8", "s3,4,8")
	parsed(t, asked(64, 4096))
}

// TestAtOnce: calls at the same time don't touch one another.
func TestAtOnce(t *testing.T) {
	var all sync.WaitGroup
	for n := range 8 {
		all.Go(func() {
			s := source(88172645463325252 + n)
			for range 500 {
				o := s.options()
				if got, ok := Parse(strings.Fields(Print(o))...); show(got) != show(o) || !ok || !Is(o) {
					t.Errorf("P8.2: %s at once: %s, %v", show(o), show(got), ok)
				}
			}
		})
	}
	all.Wait()
}
