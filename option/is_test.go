package option

import (
	"math"
	"math/bits"
	"testing"

	"parquet/api"
)

// ends are numbers that are far from all that may be.
func ends() []int {
	return []int{math.MinInt, math.MinInt + 1, math.MinInt32, -1 << 30, -4096, math.MaxInt, math.MaxInt - 1, math.MaxInt/2 + 1, math.MaxInt32, 1 << 31, 1 << 32, 1<<32 + 1, 1<<32 + 4, 1<<62 + 64}
}

// around are the numbers from a little below 0 to more than twice Side, and the ends.
func around() []int {
	l := ends()
	for n := -130; n <= 260; n++ {
		l = append(l, n)
	}
	return l
}

// isPower is asked another way than the program asks: by counting bits.
func isPower(n int) bool { return n >= 1 && n <= 64 && bits.OnesCount(uint(n)) == 1 }

func TestIsH(t *testing.T) {
	for _, n := range around() {
		if got := Is(asked(n, 1)); got != isPower(n) {
			t.Errorf("P8.1: Is with H %d: %v", n, got)
		}
	}
}

func TestIsCap(t *testing.T) {
	for _, n := range append(ends(), 4095, 4096, 4097, 4098, 8191, 8192) {
		if got, want := Is(asked(64, n)), n >= 1 && n <= 4096; got != want {
			t.Errorf("P8.1: Is with Cap %d: %v", n, got)
		}
	}
	for n := -20; n <= 9000; n++ {
		if got, want := Is(asked(64, n)), n >= 1 && n <= 4096; got != want {
			t.Errorf("P8.1: Is with Cap %d: %v", n, got)
		}
	}
}

// TestIsSize asks each number of a size, at each place in the list.
func TestIsSize(t *testing.T) {
	good := size(64, 0, 64)
	for count := 1; count <= api.MaxSizes; count++ {
		for at := range count {
			for _, n := range around() {
				in := n >= 0 && n <= 64
				for i, c := range []struct {
					s    api.Size
					want bool
				}{{size(n, 5, 4), in}, {size(5, n, 4), in}, {size(n, n, 4), in}, {size(5, 5, n), isPower(n)}} {
					l := alike(count, good)
					l[at] = c.s
					if got := Is(asked(1, 4096, l...)); got != c.want {
						t.Errorf("P8.1: Is with %v at %d of %d, row %d: %v", c.s, at, count, i, got)
					}
				}
			}
		}
	}
}

func TestIsCount(t *testing.T) {
	for n := range 20 {
		if got, want := Is(asked(1, 1, alike(n, size(0, 64, 1))...)), n <= 4; got != want {
			t.Errorf("P8.1: Is with %d sizes: %v", n, got)
		}
	}
	if Is(asked(1, 1, alike(1000000, size(0, 64, 1))...)) {
		t.Error("P8.1: Is with 1000000 sizes")
	}
}

// TestIsOneWrong: one wrong number is enough, whatever stands beside it.
func TestIsOneWrong(t *testing.T) {
	for _, o := range []api.Options{
		{}, {H: 4}, {Cap: 4}, {Sizes: alike(1, size(1, 1, 1))},
		{H: 3, Cap: 4, Sizes: alike(1, size(1, 1, 1))}, {H: 4, Cap: 0, Sizes: alike(1, size(1, 1, 1))},
		{H: 4, Cap: 4, Sizes: []api.Size{size(1, 1, 1), {}}}, {H: 4, Cap: 4, Sizes: []api.Size{size(1, 1, 0), size(1, 1, 1)}},
		{H: math.MinInt, Cap: math.MinInt, Sizes: alike(5, size(math.MinInt, math.MaxInt, math.MinInt))},
	} {
		if Is(o) {
			t.Errorf("P8.1: Is with %s", show(o))
		}
	}
}

// TestIsNoSizes: a nil list and an empty one are the same; what lies in spare room isn't asked.
func TestIsNoSizes(t *testing.T) {
	far := alike(9, size(-1, 65, 3))
	for _, l := range [][]api.Size{nil, {}, make([]api.Size, 0, 9), far[:0]} {
		if !Is(api.Options{H: 2, Cap: 7, Sizes: l}) {
			t.Error("P8.1: Is without sizes")
		}
	}
	l := append(far, alike(4, size(1, 2, 4))...)[9:]
	if !Is(asked(2, 7, l[:4:4]...)) || Is(asked(2, 7, far[:1]...)) {
		t.Error("P8.1: Is with sizes among others")
	}
}
