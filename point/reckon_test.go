package point

import (
	"math/big"
	"slices"
	"testing"

	"parquet/api"
)

func TestRows(t *testing.T) {
	rows := []struct {
		a, b, c         api.Point
		cross, dot, far string
		turn            int
	}{
		{At(0, 0), At(1, 0), At(0, 1), "1", "0", "1", 1},
		{At(0, 0), At(0, 1), At(1, 0), "-1", "0", "1", -1},
		{At(0, 0), At(3, 4), At(6, 8), "0", "50", "25", 0},      // on
		{At(0, 0), At(3, 4), At(-3, -4), "0", "-25", "25", 0},   // and back
		{At(5, -2), At(5, -2), At(5, -2), "0", "0", "0", 0},     // all alike
		{At(5, -2), At(5, -2), At(7, 7), "0", "0", "0", 0},      // two alike
		{At(5, -2), At(7, 7), At(5, -2), "0", "0", "85", 0},     // likewise
		{At(5, -2), At(7, 7), At(7, 7), "0", "85", "85", 0},     // likewise
		{At(1, 1), At(4, 1), At(2, 3), "6", "3", "9", 1},        // sharp
		{At(1, 1), At(4, 1), At(0, 3), "6", "-3", "9", 1},       // blunt
		{At(1, 1), At(4, 1), At(0, -1), "-6", "-3", "9", -1},    // and right
		{At(-7, -7), At(-7, -3), At(-7, 2), "0", "36", "16", 0}, // upright
		{pt(t, "1/2", "1/3"), pt(t, "5/2", "-2/3"), pt(t, "3/4", "7/3"), "17/4", "-3/2", "5", 1},
		{pt(t, "-1/6", "0"), pt(t, "0", "1/10"), pt(t, "1/15", "1/7"), "1/2100", "67/1260", "17/450", 1},
	}
	for i, r := range rows {
		cross, ok := Cross(r.a, r.b, r.c)
		dot, is := Dot(r.a, r.b, r.c)
		turn, in := Turn(r.a, r.b, r.c)
		far, ni := Far(r.a, r.b)
		if cross != rat(t, r.cross) || dot != rat(t, r.dot) || far != rat(t, r.far) || turn != r.turn || !ok || !is || !in || !ni {
			t.Errorf("P3.2: row %d: %s, %s, %s, %d", i, show(cross), show(dot), show(far), turn)
		}
	}
}

func TestReckons(t *testing.T) {
	threes(func(a, b, c api.Point) {
		cross, dot, far := bigCross(a, b, c), bigDot(a, b, c), bigDot(a, b, b)
		if got, ok := Cross(a, b, c); got != fromBig(cross) || !ok {
			t.Fatalf("P3.2: Cross(%s, %s, %s): %s, %v", place(a), place(b), place(c), show(got), ok)
		}
		if got, ok := Dot(a, b, c); got != fromBig(dot) || !ok {
			t.Fatalf("P3.2: Dot(%s, %s, %s): %s, %v", place(a), place(b), place(c), show(got), ok)
		}
		if got, ok := Turn(a, b, c); got != cross.Sign() || !ok {
			t.Fatalf("P3.2: Turn(%s, %s, %s): %d, %v", place(a), place(b), place(c), got, ok)
		}
		if got, ok := Far(a, b); got != fromBig(far) || !ok {
			t.Fatalf("P3.2: Far(%s, %s): %s, %v", place(a), place(b), show(got), ok)
		}
	})
}

// prime gives fractions with numbers of just 60 bits, those below the line without a common divisor, so that nothing of what is reckoned gets shorter.
func prime(count int) []api.Rat {
	l := []api.Rat{}
	d := new(big.Int).Lsh(big.NewInt(1), api.Small)
	for len(l) < count {
		d.Sub(d, big.NewInt(1))
		if !d.ProbablyPrime(20) {
			continue
		}
		n := new(big.Int).Sub(d, big.NewInt(1))
		if len(l)%2 == 1 {
			n.Neg(n)
		}
		l = append(l, api.Rat{N: words(n), D: words(d)})
	}
	return l
}

// TestRoom: of points with the longest numbers all is told.
func TestRoom(t *testing.T) {
	l := prime(8)
	a, b, c, d := api.Point{X: l[0], Y: l[1]}, api.Point{X: l[3], Y: l[2]}, api.Point{X: l[5], Y: l[4]}, api.Point{X: l[6], Y: l[7]}
	if got, ok := Cross(a, b, c); got != fromBig(bigCross(a, b, c)) || !ok || number(got.D).BitLen() < 355 {
		t.Errorf("P3.2: Cross of long numbers: %s, %v", show(got), ok)
	}
	if got, ok := Dot(a, b, c); got != fromBig(bigDot(a, b, c)) || !ok || number(got.D).BitLen() < 355 {
		t.Errorf("P3.2: Dot of long numbers: %s, %v", show(got), ok)
	}
	if got, ok := Far(a, b); got != fromBig(bigDot(a, b, b)) || !ok || number(got.D).BitLen() < 475 {
		t.Errorf("P3.2: Far of long numbers: %s, %v", show(got), ok)
	}
	four := []api.Point{a, b, c, d}
	for n := 2; n <= 4; n++ { // too long for a point, and told yet
		got, ok := Mid(four[:n]...)
		if got != bigMid(four[:n]) || !ok || Is(got) {
			t.Errorf("P3.2: Mid of %d with long numbers: %s, %v", n, place(got), ok)
		}
	}
}

func TestMid(t *testing.T) {
	square := []api.Point{At(0, 0), At(2, 0), At(2, 1), pt(t, "0", "1/2")}
	rows := []struct {
		l    []api.Point
		want api.Point
		ok   bool
	}{
		{nil, api.Point{}, false},
		{[]api.Point{}, api.Point{}, false},
		{square[2:3], At(2, 1), true},
		{square[3:], pt(t, "0", "1/2"), true},
		{square[:2], At(1, 0), true},
		{square[:3], pt(t, "4/3", "1/3"), true},
		{square, pt(t, "1", "3/8"), true},
		{[]api.Point{At(3, -5), At(3, -5), At(3, -5), At(3, -5)}, At(3, -5), true},
		{[]api.Point{At(-3, 5), At(3, -5)}, At(0, 0), true},
		{[]api.Point{At(0, 0), At(1, 0), At(0, 1)}, pt(t, "1/3", "1/3"), true},
		{append(slices.Clone(square), At(0, 0)), api.Point{}, false},
		{[]api.Point{At(1, 1), At(1, 1), At(1, 1), At(1, 1), At(1, 1)}, api.Point{}, false},
		{make([]api.Point, 5), api.Point{}, false},
		{slices.Repeat(square, 2), api.Point{}, false},
		{slices.Repeat(square, 1000), api.Point{}, false},
	}
	for i, r := range rows {
		kept := slices.Clone(r.l)
		if got, ok := Mid(r.l...); got != r.want || ok != r.ok {
			t.Errorf("P3.2: Mid, row %d: %s, %v", i, place(got), ok)
		}
		if !slices.Equal(kept, r.l) {
			t.Errorf("P3.2: Mid changes its row %d", i)
		}
	}
}

func TestMidMany(t *testing.T) {
	s := source(123456789)
	for range 2000 {
		room := []api.Point{s.point(), s.point(), s.point(), s.point()}
		kept := slices.Clone(room)
		for n := 1; n <= len(room); n++ {
			if got, ok := Mid(room[:n]...); got != bigMid(room[:n]) || !ok {
				t.Fatalf("P3.2: Mid of %d from %s on: %s, %v", n, place(room[0]), place(got), ok)
			}
		}
		if !slices.Equal(kept, room) {
			t.Fatal("P3.2: Mid changes what it is handed, or the room behind it")
		}
	}
}
