package tri

import (
	"testing"

	"parquet/api"
	"parquet/ratio"
)

func TestSharp(t *testing.T) {
	rows := []struct {
		a, b, c api.Point
		tan     string
		sharp   bool
	}{
		{at(0, 0), at(1, 0), at(0, 1), "0", false}, // just 90
		{at(1, 0), at(0, 1), at(0, 0), "1", true},  // just 45
		{at(0, 1), at(0, 0), at(1, 0), "1", true},
		{at(0, 0), at(3, -1), at(1, 3), "0", false}, // just 90, neither level nor upright
		{at(0, 0), at(3, -1), at(2, 1), "1", true},  // just 45, likewise
		{at(0, 0), at(4, 0), at(4, 1), "1/4", true},
		{at(0, 0), at(4, 1), at(4, 0), "-1/4", true}, // right
		{at(0, 0), at(0, 1), at(1, 0), "0", false},   // right, just 90
		{at(0, 0), at(1, 1), at(1, 0), "-1", true},   // right, just 45
		{at(0, 0), at(4, 0), at(2, 3), "3/2", true},
		{at(0, 0), at(4, 0), at(-1, 3), "0", false},                  // wider than 90
		{at(0, 0), at(-1, 3), at(4, 0), "0", false},                  // right, wider
		{at(0, 0), pt(t, far, "0"), pt(t, "1/"+far, "1"), far, true}, // hardly below 90
		{at(0, 0), pt(t, far, "0"), pt(t, "-1/"+far, "1"), "0", false},
		{at(0, 0), at(1, 0), pt(t, far, nearly), nearly + "/" + far, true}, // hardly below 45
		{at(0, 0), at(1, 0), pt(t, far, far), "1", true},
		{at(0, 0), at(1, 0), pt(t, nearly, far), far + "/" + nearly, true}, // hardly above it
		{at(0, 0), at(1, 0), pt(t, far, "1/"+far), "1/1329227995784915870597964051066650625", true},
		{at(0, 0), at(1, 1), at(2, 2), "0", true},  // one line, nothing between
		{at(2, 2), at(1, 1), at(0, 0), "0", true},  // likewise
		{at(1, 1), at(0, 0), at(2, 2), "0", false}, // one line, to and fro
		{at(0, 0), at(2, 5), at(2, 5), "0", true},  // the others alike
		{at(2, 5), at(2, 5), at(0, 0), "0", false}, // alike with one
		{at(2, 5), at(0, 0), at(2, 5), "0", false}, // alike with the other
		{at(2, 5), at(2, 5), at(2, 5), "0", false}, // all alike
		{pt(t, "1/2", "1/3"), pt(t, "5/2", "-2/3"), pt(t, "7/4", "7/3"), "21/2", true},
	}
	for i, r := range rows {
		if tan, sharp, ok := Sharp(r.a, r.b, r.c); tan != rat(t, r.tan) || sharp != r.sharp || !ok {
			t.Errorf("P5.2: row %d: Sharp %s, %v, %v", i, show(tan), sharp, ok)
		}
	}
}

// checkGood: which corner is the first makes no difference; what turns right isn't good.
func checkGood(t *testing.T, a, b, c api.Point, want bool) {
	t.Helper()
	for _, l := range rounds(a, b, c) {
		if got, ok := Good(l[0], l[1], l[2]); got != want || !ok {
			t.Errorf("P5.2: Good of %s: %v, %v", where(l[:]...), got, ok)
		}
		if got, ok := Good(turned(l[0]), turned(l[2]), turned(l[1])); got != want || !ok {
			t.Errorf("P5.2: Good of %s, X and Y changed: %v, %v", where(l[:]...), got, ok)
		}
		if want {
			if got, ok := Good(l[0], l[2], l[1]); got || !ok {
				t.Errorf("P5.2: Good of %s, turned right: %v, %v", where(l[:]...), got, ok)
			}
		}
	}
}

func TestGood(t *testing.T) {
	rows := []struct {
		a, b, c api.Point
		want    bool
	}{
		{at(0, 0), at(1, 0), at(0, 1), true},
		{at(0, 0), at(2, 0), at(1, 1), true},
		{at(0, 0), at(4, 0), at(2, 3), true},  // below 90 each
		{at(0, 0), at(3, -1), at(1, 3), true}, // neither level nor upright
		{at(0, 0), at(3, -1), at(2, 1), true},
		{at(0, 0), at(1, 0), at(0, 2), false},
		{at(0, 0), at(4, 0), at(4, 1), false},
		{at(0, 0), at(4, 0), at(-1, 3), false}, // wider than 90: no room for two of 45
		{at(0, 0), at(4, 0), pt(t, "1/2", "1/2"), false},
		{at(0, 0), at(0, 1), at(1, 0), false}, // right
		{at(0, 0), at(1, 1), at(2, 2), false}, // one line
		{at(0, 0), at(2, 2), at(1, 1), false},
		{at(0, 0), at(0, 0), at(1, 0), false},                                           // two alike
		{at(1, 0), at(1, 0), at(1, 0), false},                                           // all alike
		{at(0, 0), at(2, 0), pt(t, "1", nearly+"/"+far), false},                         // two hardly below 45
		{at(0, 0), at(2, 0), pt(t, "1", far+"/"+nearly), true},                          // hardly above it
		{at(0, 0), at(2, 0), pt(t, far+"/"+nearly, "1"), false},                         // one hardly below, one above
		{at(0, 0), at(2, 0), pt(t, nearly+"/"+far, "1"), false},                         // likewise
		{at(0, 0), at(2, 0), pt(t, nearly+"/"+far, nearly+"/"+far), false},              // one just 45, one hardly below
		{at(0, 0), at(2, 0), pt(t, "1", "2"), true},                                     // a slim one, yet good
		{at(0, 0), at(2, 0), pt(t, "1", "241421356237309504/100000000000000000"), true}, // 45 at the top, but for what is hardly to be told
		{at(0, 0), at(2, 0), pt(t, "1", "241421356237309505/100000000000000000"), false},
		{at(0, 0), pt(t, far, "0"), pt(t, "0", far), true},
		{at(0, 0), pt(t, far, "0"), pt(t, "0", nearly), false},
		{pt(t, "-"+far, "-"+far), pt(t, far, "-"+far), pt(t, "0", far), true},
		{at(0, 0), pt(t, "1/"+far, "0"), pt(t, "0", "1/"+far), true},
		{at(0, 0), pt(t, "1/"+far, "0"), pt(t, "0", "1/"+nearly), false},
	}
	for _, r := range rows {
		checkGood(t, r.a, r.b, r.c, r.want)
	}
}

func checkSharpened(t *testing.T, a, b, c api.Point) bool {
	t.Helper()
	for _, l := range rounds(a, b, c) {
		want, is := bigSharp(l[0], l[1], l[2])
		if tan, sharp, ok := Sharp(l[0], l[1], l[2]); tan != want || sharp != is || !ok {
			t.Fatalf("P5.2: Sharp of %s: %s, %v, %v", where(l[:]...), show(tan), sharp, ok)
		}
	}
	want := bigGood(a, b, c)
	if good, ok := Good(a, b, c); good != want || !ok {
		t.Fatalf("P5.2: Good of %s: %v, %v", where(a, b, c), good, ok)
	}
	return want
}

func TestSharpAndGoodMany(t *testing.T) {
	var good, all int
	threes(func(a, b, c api.Point) {
		if checkSharpened(t, a, b, c) {
			good++
		}
		all++
	})
	if good < 100 || all-good < 1000 {
		t.Errorf("too few of some kind: %d good of %d", good, all)
	}
}

// TestSharpRoom: of points with the longest numbers all is told.
func TestSharpRoom(t *testing.T) {
	l := primes(6)
	a, b, c := api.Point{X: l[0], Y: l[2]}, api.Point{X: l[1], Y: l[4]}, api.Point{X: l[3], Y: l[5]}
	longest := false
	for _, x := range rounds(a, b, c) {
		checkSharpened(t, x[0], x[1], x[2])
		checkSharpened(t, x[0], x[2], x[1])
		tan, _, _ := Sharp(x[0], x[1], x[2])
		longest = longest || !ratio.Safe(tan, 475)
	}
	if !longest {
		t.Error("no test of room")
	}
	for _, x := range atLimit() {
		for _, y := range atLimit() {
			p := api.Point{X: x, Y: y}
			checkSharpened(t, p, a, b)
			checkSharpened(t, p, at(0, 0), at(1, 0))
		}
	}
}
