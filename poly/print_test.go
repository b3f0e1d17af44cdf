package poly

import (
	"math"
	"slices"
	"strings"
	"testing"

	"parquet/api"
)

func TestPrint(t *testing.T) {
	for i, c := range []struct {
		d    api.Drawing
		want string
	}{
		{api.Drawing{}, "0 2 0 1\n0 1\n0\n"},
		{api.Drawing{V: []api.Vert{}, S: []api.Seg{}, H: []api.Point{}}, "0 2 0 1\n0 1\n0\n"},
		{api.Drawing{V: []api.Vert{{X: 3, Y: -4}}}, "1 2 0 1\n1 3 -4 0\n0 1\n0\n"},
		{api.Drawing{S: []api.Seg{{A: 3, B: 0, Mark: -1}}}, "0 2 0 1\n1 1\n1 4 1 -1\n0\n"},
		{api.Drawing{H: []api.Point{pt(t, "-1/2", "3"), at(0, -5)}}, "0 2 0 1\n0 1\n2\n1 -1/2 3\n2 0 -5\n"},
		{square(t), "4 2 0 1\n1 0 0 3\n2 8 -1 0\n3 8 8 -7\n4 1 8 0\n4 1\n1 1 2 5\n2 2 3 0\n3 3 4 -6\n4 4 1 999999999\n3\n1 1/2 -7/3\n2 4 0\n3 5 22/7\n"},
	} {
		if got := Print(c.d); got != c.want {
			t.Errorf("P7.2: row %d: %q, not %q", i, got, c.want)
		}
	}
}

// TestPrintRaw: whatever is handed over is told as it stands; a place and 1 goes round.
func TestPrintRaw(t *testing.T) {
	const least, most = "-9223372036854775808", "9223372036854775807"
	d := api.Drawing{
		V: []api.Vert{{X: math.MaxInt, Y: math.MinInt, Mark: math.MinInt}, {X: -1, Y: 1000000000, Mark: math.MaxInt}},
		S: []api.Seg{{A: math.MaxInt, B: math.MinInt, Mark: math.MaxInt}, {A: -1, B: -2, Mark: math.MinInt}, {A: math.MaxInt - 1, B: 2, Mark: -1}, {A: 7, B: 7}},
	}
	want := "2 2 0 1\n1 " + most + " " + least + " " + least + "\n2 -1 1000000000 " + most + "\n" +
		"4 1\n1 " + least + " -9223372036854775807 " + most + "\n2 0 -1 " + least + "\n3 " + most + " 3 -1\n4 8 8 0\n0\n"
	if got := Print(d); got != want {
		t.Errorf("P7.2: %q, not %q", got, want)
	}
}

// TestPrintNoFraction: ratio's text of it is empty, and stands between its blanks.
func TestPrintNoFraction(t *testing.T) {
	half := rat(t, "1/2")
	for _, a := range none() {
		d := api.Drawing{H: []api.Point{{X: a, Y: half}, {X: half, Y: a}, {X: a, Y: a}}}
		got := Print(d)
		if want := "0 2 0 1\n0 1\n3\n1  1/2\n2 1/2 \n3  \n"; got != want {
			t.Errorf("P7.2: with %s: %q, not %q", rawText(a), got, want)
		}
		refused(t, got, 4)
	}
}

// TestPrintMany: there is no limit to a list here.
func TestPrintMany(t *testing.T) {
	d := api.Drawing{V: make([]api.Vert, 20000), S: make([]api.Seg, 20000), H: slices.Repeat([]api.Point{at(1, 2)}, 2000)}
	l := rows(Print(d))
	if len(l) != 42003 || l[20000] != "20000 0 0 0" || l[20001] != "20000 1" || l[40001] != "20000 1 1 0" || l[40002] != "2000" || l[42002] != "2000 1 2" {
		t.Errorf("P7.2: of many items %d lines are told", len(l))
	}
}

// TestPrintedIsParsed: what is told of a drawing that a text may tell is read as it.
func TestPrintedIsParsed(t *testing.T) {
	s := source(88172645463325252)
	l := []api.Drawing{{}, square(t), greatest(t)}
	for range 2000 {
		l = append(l, s.drawing())
	}
	for _, d := range l {
		text := Print(d)
		got := parsed(t, text)
		if show(got) != show(d) || !Same(got, d) || Print(got) != text {
			t.Fatalf("P7.3: %q is read as %s", text, show(got))
		}
	}
}

// greatest has as much as a drawing may have: the longest numbers, too.
func greatest(t *testing.T) api.Drawing {
	t.Helper()
	var d api.Drawing
	for i := range api.MaxVerts {
		d.V = append(d.V, api.Vert{X: -999999999, Y: 999999999 - i, Mark: -999999999})
	}
	for i := range api.MaxSegs {
		d.S = append(d.S, api.Seg{A: i, B: api.MaxVerts - 1, Mark: -999999999})
	}
	long := strings.Repeat("9", 150)
	for range api.MaxHoles {
		d.H = append(d.H, pt(t, "-"+long+"/1"+strings.Repeat("0", 150), "1/"+long))
	}
	return d
}

// TestReadIsPrinted: however a text tells a drawing, what is told of it again is read as it.
func TestReadIsPrinted(t *testing.T) {
	for _, s := range []string{
		good,
		"# from 0 on\n3 2 2 0\r\n0 5 6 a b\n1 7 8 c d\n\n2 9 9 e f#g\n2 0\n1 0 2\n2 1 0\n1\n0 1/2 -2/3",
		"1 2 0 1\n0 3 4 5\n1 0\n1 0 0\n0",
	} {
		d := parsed(t, s)
		if again := parsed(t, Print(d)); show(again) != show(d) {
			t.Errorf("P7.3: of %q: %s, not %s", s, show(again), show(d))
		}
	}
}
