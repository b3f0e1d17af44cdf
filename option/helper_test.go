package option

import (
	"fmt"
	"slices"
	"testing"

	"parquet/api"
)

// show tells all that o has, so that no two look alike; a nil list and an empty one are the same.
func show(o api.Options) string { return fmt.Sprint(o.H, " ", o.Cap, " ", o.Sizes) }

// asked tells options with these sizes.
func asked(h, most int, sizes ...api.Size) api.Options {
	return api.Options{H: h, Cap: most, Sizes: sizes}
}

// size tells one at a point.
func size(x, y, h int) api.Size { return api.Size{X: x, Y: y, H: h} }

// alike tells a list of n such sizes.
func alike(n int, s api.Size) []api.Size { return slices.Repeat([]api.Size{s}, n) }

// parsed asks that the words are read as these options, which may be asked for.
func parsed(t testing.TB, want api.Options, l ...string) {
	t.Helper()
	o, ok := Parse(l...)
	if !ok || show(o) != show(want) {
		t.Errorf("P8.1: Parse of %q: %s, %v, not %s", l, show(o), ok, show(want))
	}
	if ok && !Is(o) {
		t.Errorf("P8.1: Parse of %q may not be: %s", l, show(o))
	}
}

// refused asks that the words are wrong, and that nothing is told beside the false.
func refused(t testing.TB, l ...string) {
	t.Helper()
	if o, ok := Parse(l...); ok || o.H != 0 || o.Cap != 0 || len(o.Sizes) != 0 {
		t.Errorf("P8.1: Parse of %.100q: %s, %v", l, show(o), ok)
	}
}

// copied tells o in other memory, with spare room behind that has something in it.
func copied(o api.Options) api.Options {
	l := append(slices.Clone(o.Sizes), alike(3, size(7, 7, 7))...)
	o.Sizes = l[:len(o.Sizes)]
	return o
}

// spared tells o's sizes with all that lies in the spare room behind them.
func spared(o api.Options) string { return fmt.Sprint(o.Sizes[:cap(o.Sizes)]) }

// powers are the sides that a square may have.
func powers() []int { return []int{1, 2, 4, 8, 16, 32, 64} }

// source gives the same numbers in each run.
type source uint64

func (s *source) next() uint64 {
	*s ^= *s << 13
	*s ^= *s >> 7
	*s ^= *s << 17
	return uint64(*s)
}

// below gives a number from 0 to n less 1.
func (s *source) below(n int) int { return int(s.next() >> 8 % uint64(n)) }

// one gives one of l.
func one[T any](s *source, l ...T) T { return l[s.below(len(l))] }

// options gives some that may be asked for.
func (s *source) options() api.Options {
	o := asked(one(s, powers()...), 1+s.below(api.MaxCap))
	for range s.below(api.MaxSizes + 1) {
		o.Sizes = append(o.Sizes, size(s.below(api.Side+1), s.below(api.Side+1), one(s, powers()...)))
	}
	return o
}
