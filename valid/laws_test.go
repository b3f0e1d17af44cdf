package valid

import (
	"slices"
	"sync"
	"testing"

	"parquet/api"
	"parquet/ratio"
)

// goneRound tells the loops that one comes by, from each vertex that isn't gone by yet, on by segments not taken yet.
func goneRound(d api.Drawing) [][]int {
	var loops [][]int
	taken, gone := map[int]int{}, map[int]int{}
	for i := range d.V {
		if gone[i] > 0 {
			continue
		}
		var row []int
		for at, moved := i, true; moved; {
			gone[at]++
			row = append(row, at)
			moved = false
			for k, s := range d.S {
				if taken[k] == 0 && (s.A == at || s.B == at) {
					taken[k]++
					at, moved = s.A+s.B-at, true
					break
				}
			}
		}
		loops = append(loops, row)
	}
	return loops
}

// TestLoopsApart: of what may be all segments are gone along once, each loop ends where it begins, and no two segments meet but at a common end.
func TestLoopsApart(t *testing.T) {
	s, count := source(521288629521288629), 0
	for count < 1500 {
		d := s.shuffled(s.scattered(9, 0))
		if Check(d) != api.OK {
			continue
		}
		count++
		all := 0
		for _, row := range goneRound(d) {
			if len(row) < 4 || row[0] != row[len(row)-1] {
				t.Fatalf("P9.2: a loop %v: %s", row, show(d))
			}
			all += len(row) - 1
		}
		if all != len(d.V) || all != len(d.S) {
			t.Fatalf("P9.2: not all is gone by: %s", show(d))
		}
		for i, a := range d.S {
			for _, b := range d.S[:i] {
				if !apart(d, a, b) {
					t.Fatalf("P9.2: %v and %v meet: %s", a, b, show(d))
				}
			}
		}
	}
}

// shuffled tells the same drawing, its lists in another order, its segments this way round or the other.
func (s *source) shuffled(d api.Drawing) api.Drawing {
	place := s.order(len(d.V))
	out := api.Drawing{V: make([]api.Vert, len(d.V))}
	for i, v := range d.V {
		out.V[place[i]] = v
	}
	for _, k := range s.order(len(d.S)) {
		g := d.S[k]
		g.A, g.B = place[g.A], place[g.B]
		if s.below(2) == 0 {
			g.A, g.B = g.B, g.A
		}
		out.S = append(out.S, g)
	}
	for _, k := range s.order(len(d.H)) {
		out.H = append(out.H, d.H[k])
	}
	return out
}

// TestShuffled: no answer hangs on the order of lists, nor on which way round segments go.
func TestShuffled(t *testing.T) {
	s, count := source(123456789123456789), map[api.Errno]int{}
	for i := range 4000 {
		d := s.scattered([]int{5, 12, 64}[i%3], 2)
		want := Check(d)
		count[want]++
		if c := s.shuffled(d); Check(c) != want {
			t.Fatalf("P9.1: %v, shuffled %v: %s", want, Check(c), show(d))
		}
	}
	enough(t, count, 100, api.OK, api.ErrTwin, api.ErrCross, api.ErrHole)
}

// mirrored changes X and Y, or X with what Side has more.
func mirrored(d api.Drawing, across bool) api.Drawing {
	return changed(d, func(d *api.Drawing) {
		for i, v := range d.V {
			d.V[i].X, d.V[i].Y = v.Y, v.X
			if across {
				d.V[i].X, d.V[i].Y = api.Side-v.X, v.Y
			}
		}
		for i, p := range d.H {
			d.H[i] = api.Point{X: p.Y, Y: p.X}
			if across {
				x, _ := ratio.Sub(rat(api.Side, 1), p.X)
				d.H[i] = api.Point{X: x, Y: p.Y}
			}
		}
	})
}

// TestMirrored: what may be may be in a mirror, too.
func TestMirrored(t *testing.T) {
	s, count := source(987654321987654321), map[api.Errno]int{}
	for i := range 2000 {
		d := s.scattered([]int{5, 12, 70}[i%3], 2)
		want := Check(d)
		count[want]++
		for _, across := range []bool{false, true} {
			if c := mirrored(d, across); Check(c) != want {
				t.Fatalf("P9.1: %v, in a mirror %v: %s", want, Check(c), show(d))
			}
		}
	}
	enough(t, count, 50, api.OK, api.ErrBound, api.ErrTwin, api.ErrCross, api.ErrHole)
}

// TestNoHoles: but for ErrForm and ErrHole no answer hangs on holes' points, and none on marks that may be.
func TestNoHoles(t *testing.T) {
	s := source(192837465192837465)
	for range 2000 {
		d := s.scattered(7, api.MaxHoles)
		got, bare := Check(d), Check(api.Drawing{V: d.V, S: d.S})
		if got != bare && (got != api.ErrHole || bare != api.OK) {
			t.Fatalf("P9.1: %v, without holes' points %v: %s", got, bare, show(d))
		}
		marked := changed(d, func(d *api.Drawing) {
			for i := range d.V {
				d.V[i].Mark = s.below(1000001)
			}
			for k := range d.S {
				d.S[k].Mark = s.below(1000001)
			}
		})
		if Check(marked) != got {
			t.Fatalf("P9.1: %v, otherwise marked %v: %s", got, Check(marked), show(d))
		}
	}
}

// TestNothingKept: after a drawing was changed it is asked anew, and what lies in spare room isn't asked at all.
func TestNothingKept(t *testing.T) {
	d := four()
	for range 2 {
		checked(t, "as it was", d, api.OK)
		d.V[1].X = 65
		checked(t, "changed", d, api.ErrBound)
		d.V[1].X = 20
	}
	long := drawn(square(0, 0, 9), square(20, 20, 9))
	long.H = slices.Repeat([]api.Point{pt(0, 1, 0, 1)}, 9)
	checked(t, "the first of two loops", api.Drawing{V: long.V[:4], S: long.S[:4], H: long.H[:0]}, api.OK)
	checked(t, "vertices alone", api.Drawing{V: long.V[:4], S: long.S[:0], H: long.H[:0]}, api.ErrLoop)
}

// TestAtOnce: calls at the same time, of one drawing too, don't touch one another.
func TestAtOnce(t *testing.T) {
	d := four()
	was := seen(d)
	var all sync.WaitGroup
	for n := range 8 {
		all.Go(func() {
			s := source(88172645463325252 + n)
			for range 30 {
				c := s.scattered(9, 1)
				if want := literal(c); Check(c) != want || Check(d) != api.OK || At(d, n) != spot(d.V[n]) {
					t.Errorf("P9.2: at once: %v, not %v: %s", Check(c), want, show(c))
				}
			}
		})
	}
	all.Wait()
	if seen(d) != was {
		t.Error("P9.2: calls at once changed what they were handed")
	}
}

func BenchmarkCheck(b *testing.B) {
	round := drawn(around16())
	for name, d := range map[string]api.Drawing{"none": round, "holes": with(round, pt(32, 1, 32, 1), pt(1, 2, 1, 3))} {
		b.Run(name, func(b *testing.B) {
			for b.Loop() {
				Check(d)
			}
		})
	}
}
