package loop

import (
	"reflect"
	"slices"
	"testing"

	"parquet/api"
	"parquet/valid"
)

// rows asks that All tells these, and leaves d as it was.
func rows(t testing.TB, name string, d api.Drawing, want [][]int) {
	t.Helper()
	c := copied(d)
	was := seen(c)
	if got := All(c); len(got) != len(want) || len(got) > 0 && !reflect.DeepEqual(got, want) {
		t.Errorf("P10.1: %s: %v, not %v: %.2000s", name, got, want, show(d))
	}
	must(t, seen(c) == was, "P10.1: %s: All changed what it was handed", name)
}

// joins tells whether some segment goes from a to b, or back.
func joins(d api.Drawing, a, b int) bool {
	return slices.ContainsFunc(d.S, func(g api.Seg) bool { return g.A == a && g.B == b || g.A == b && g.B == a })
}

// lawful asks of All what the promise says, word by word: there is just one list of rows that this is true of.
func lawful(t testing.TB, d api.Drawing) {
	t.Helper()
	l, last, count := All(d), -1, make([]int, len(d.V))
	for _, row := range l {
		must(t, len(row) >= 3, "P10.1: a short row %v: %s", row, show(d))
		must(t, row[0] > last, "P10.1: %v isn't by the first vertices: %s", l, show(d))
		last = row[0]
		must(t, slices.Min(row) == row[0], "P10.1: %v doesn't begin with the least one: %s", row, show(d))
		must(t, row[1] < row[len(row)-1], "P10.1: %v doesn't go on to the lesser one: %s", row, show(d))
		for i, v := range row {
			must(t, joins(d, v, row[(i+1)%len(row)]), "P10.1: %v isn't joined behind %d: %s", row, v, show(d))
			count[v]++
		}
	}
	for v, n := range count {
		must(t, n == 1, "P10.1: %d times vertex %d: %v: %s", n, v, l, show(d))
	}
}

func TestExample(t *testing.T) {
	rows(t, "a triangle", drawn([]int{0, 0, 4, 0, 0, 4}), [][]int{{0, 1, 2}})
}

func TestOrdinary(t *testing.T) {
	for _, k := range ordinary() {
		must(t, valid.Check(k.d) == api.OK, "%s may not be", k.name)
		rows(t, k.name, k.d, k.rows)
		lawful(t, k.d)
	}
}

// TestRenumbered: whatever the numbers of vertices, each loop begins with its least one and goes on to the lesser one of both neighbours; loops are by their first vertices.
func TestRenumbered(t *testing.T) {
	s := source(88172645463325252)
	for _, k := range ordinary() {
		for range 50 {
			d, place := s.renumbered(k.d)
			rows(t, k.name, s.shuffled(d), moved(k.rows, place))
		}
	}
}

// moved tells rows of vertices that were moved to other places.
func moved(l [][]int, place []int) [][]int {
	var out [][]int
	for _, row := range l {
		var at []int
		for _, v := range row {
			at = append(at, place[v])
		}
		at = round(at, slices.Index(at, slices.Min(at)))
		if at[1] > at[len(at)-1] {
			at = round(turned(at), len(at)-1)
		}
		out = append(out, at)
	}
	slices.SortFunc(out, slices.Compare[[]int])
	return out
}

// TestFourNumbers tries all numbers that a square's vertices may have, and all ways round of its segments.
func TestFourNumbers(t *testing.T) {
	corners := []api.Vert{{X: 3, Y: 3}, {X: 9, Y: 3}, {X: 9, Y: 9}, {X: 3, Y: 9}}
	for n := range 256 {
		place := []int{n & 3, n >> 2 & 3, n >> 4 & 3, n >> 6 & 3}
		if place[0] == place[1] || place[0] == place[2] || place[0] == place[3] || place[1] == place[2] || place[1] == place[3] || place[2] == place[3] {
			continue
		}
		for ways := range 16 {
			d := api.Drawing{V: make([]api.Vert, 4)}
			for i, v := range corners {
				d.V[place[i]] = v
				g := api.Seg{A: place[i], B: place[(i+1)%4]}
				if ways>>i&1 == 1 {
					g.A, g.B = g.B, g.A
				}
				d.S = append(d.S, g)
			}
			at := round(place, slices.Index(place, 0))
			rows(t, "a square", d, [][]int{{0, min(at[1], at[3]), at[2], max(at[1], at[3])}})
		}
	}
}

// TestShuffled: the same loops, whatever the order of the segments, their marks, and whichever way round they are.
func TestShuffled(t *testing.T) {
	s := source(521288629521288629)
	for range 300 {
		d := s.scattered(9)
		want := All(d)
		for range 5 {
			c := s.shuffled(d)
			for k := range c.S {
				c.S[k].Mark = s.below(1000001)
			}
			rows(t, "shuffled", c, want)
		}
	}
}

func TestScattered(t *testing.T) {
	s, count := source(362436069362436069), map[int]int{}
	for i := range 2000 {
		d := s.scattered([]int{4, 7, 12, 64}[i%4])
		lawful(t, d)
		count[len(All(d))]++
	}
	for n := 1; n <= 4; n++ {
		must(t, count[n] >= 50, "just %d drawings of %d loops", count[n], n)
	}
}

// TestAllNew: what is answered is new memory, its spare room too, and no row shares any with another one.
func TestAllNew(t *testing.T) {
	d := drawn(square(0, 0, 9), square(1, 1, 7), []int{20, 20, 30, 20, 20, 30}, []int{40, 40, 50, 40, 50, 50, 45, 55, 40, 50})
	want := [][]int{{0, 1, 2, 3}, {4, 5, 6, 7}, {8, 9, 10}, {11, 12, 13, 14, 15}}
	for i := range want {
		first, second := All(d), All(d)
		room := first[i][:cap(first[i])]
		for j := range room {
			room[j] = -7
		}
		first[i] = append(first[i], -8, -8)
		for j, row := range first {
			must(t, j == i || slices.Equal(row, want[j]), "P10.1: row %d is touched by row %d: %v", j, i, row)
		}
		all := second[:cap(second)]
		must(t, reflect.DeepEqual(second, want), "P10.1: an answer is touched by another one: %v", second)
		for j := range all {
			all[j] = []int{-9}
		}
		rows(t, "after answers were changed", d, want)
	}
}

// TestAllSpare: what lies in spare room isn't asked.
func TestAllSpare(t *testing.T) {
	d := drawn(square(0, 0, 9), square(20, 20, 9))
	part := api.Drawing{V: d.V[:4], S: d.S[:4], H: make([]api.Point, 3)[:0]}
	rows(t, "the first of two", part, [][]int{{0, 1, 2, 3}})
	must(t, Depth(part, 1) == 0 && Area2(part, []int{0, 1, 2, 3}) == 162, "P10.1: spare room is asked")
	must(t, All(d)[1][0] == 4, "P10.1: after a part of it was asked")
}
