package option

import (
	"math"
	"strings"
	"testing"

	"parquet/api"
)

func TestPrint(t *testing.T) {
	for _, c := range []struct {
		o    api.Options
		want string
	}{
		{asked(64, 4096), "h64 c4096"},
		{asked(4, 4096), "h4 c4096"},
		{asked(1, 1, size(0, 64, 1)), "h1 c1 s0,64,1"},
		{asked(8, 100, size(1, 2, 4), size(64, 0, 64), size(1, 2, 4), size(0, 0, 32)), "h8 c100 s1,2,4 s64,0,64 s1,2,4 s0,0,32"},
		{api.Options{H: 2, Cap: 3, Sizes: []api.Size{}}, "h2 c3"},
		{api.Options{H: 2, Cap: 3, Sizes: alike(4, size(9, 9, 9))[:0]}, "h2 c3"},
	} {
		if got := Print(c.o); got != c.want {
			t.Errorf("P8.1: Print of %s: %q", show(c.o), got)
		}
	}
}

// TestPrintRaw: what may not be asked for is told as it stands.
func TestPrintRaw(t *testing.T) {
	const least, most = "-9223372036854775808", "9223372036854775807"
	for _, c := range []struct {
		o    api.Options
		want string
	}{
		{api.Options{}, "h0 c0"},
		{asked(-1, -4096), "h-1 c-4096"},
		{asked(3, 4097, size(-1, 65, 5), api.Size{}), "h3 c4097 s-1,65,5 s0,0,0"},
		{asked(math.MinInt, math.MaxInt, size(math.MaxInt, math.MinInt, math.MaxInt)), "h" + least + " c" + most + " s" + most + "," + least + "," + most},
		{asked(math.MaxInt, math.MinInt, size(math.MinInt, math.MaxInt, math.MinInt)), "h" + most + " c" + least + " s" + least + "," + most + "," + least},
		{asked(1, 1, alike(6, size(1, 2, 4))...), "h1 c1" + strings.Repeat(" s1,2,4", 6)},
		{asked(1, 1, alike(100000, size(1, 2, 4))...), "h1 c1" + strings.Repeat(" s1,2,4", 100000)},
	} {
		if got := Print(c.o); got != c.want {
			t.Errorf("P8.1: Print of %.100s: %.100q, not %.100q", show(c.o), got, c.want)
		}
	}
}
