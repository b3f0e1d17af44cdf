package loop

import (
	"math"
	"slices"
	"testing"

	"parquet/api"
)

// area asks that Area2 tells this, and leaves all as it was.
func area(t testing.TB, name string, d api.Drawing, l []int, want int) {
	t.Helper()
	c, row := copied(d), spared(l, -9)
	was, held := seen(c), slices.Clone(row[:cap(row)])
	if got := Area2(c, row); got != want {
		t.Errorf("P10.1: %s: area of %v: %d, not %d: %.2000s", name, l, got, want, show(d))
	}
	must(t, seen(c) == was && slices.Equal(row[:cap(row)], held), "P10.1: %s: Area2 changed what it was handed", name)
}

// strips tells twice the area by what lies between each side and the line at the bottom.
func strips(d api.Drawing, row []int) int {
	sum := 0
	for i, v := range row {
		a, b := d.V[v], d.V[row[(i+1)%len(row)]]
		sum += (a.X - b.X) * (a.Y + b.Y)
	}
	return sum
}

func TestAreaOrdinary(t *testing.T) {
	for _, k := range ordinary() {
		for i, row := range k.rows {
			area(t, k.name, k.d, row, k.area2[i])
			area(t, k.name+" turned round", k.d, turned(row), -k.area2[i])
			for n := range row {
				area(t, k.name+" from another vertex", k.d, round(row, n), k.area2[i])
				area(t, k.name+" turned round from another vertex", k.d, round(turned(row), n), -k.area2[i])
			}
		}
	}
}

// TestAreaTurns: rows that turn left and right, whether they are loops or not.
func TestAreaTurns(t *testing.T) {
	d := drawn(square(10, 20, 10), []int{30, 30, 40, 30, 30, 40})
	for _, r := range []struct {
		row  []int
		want int
	}{
		{nil, 0}, {[]int{}, 0}, {[]int{1}, 0}, {[]int{1, 2}, 0}, {[]int{2, 2, 2}, 0}, {[]int{0, 1, 0}, 0},
		{[]int{0, 1, 2}, 100}, {[]int{2, 1, 0}, -100}, {[]int{1, 2, 3}, 100}, {[]int{0, 2, 3}, 100}, {[]int{0, 3, 2}, -100},
		{[]int{0, 2, 1, 3}, 0}, {[]int{0, 1, 3, 2}, 0}, {[]int{0, 0, 1, 1, 2, 2, 3, 3}, 200}, {[]int{0, 1, 2, 3, 0, 1, 2, 3}, 400}, {[]int{0, 1, 2, 3, 0, 3, 2, 1}, 0},
		{[]int{4, 5, 6}, 100}, {[]int{0, 1, 5, 4}, 200}, {[]int{4, 5, 1, 0}, -200}, {[]int{0, 5, 6}, 400}, {[]int{6, 5, 0}, -400},
	} {
		area(t, "a row", d, r.row, r.want)
	}
	area(t, "all round", d, slices.Repeat([]int{0, 1, 2, 3}, 100000), 20000000)
	area(t, "all round, to the right", d, slices.Repeat([]int{3, 2, 1, 0}, 100000), -20000000)
}

// TestAreaNone: what is no vertex is at 0, 0.
func TestAreaNone(t *testing.T) {
	d := drawn(square(10, 20, 10))
	for _, n := range []int{-1, 4, 5, 6, 7, -4, 16, 1 << 32, 1<<32 + 1, math.MaxInt, math.MinInt, math.MinInt + 1, math.MaxInt32, math.MinInt32} {
		area(t, "no vertex", d, []int{n}, 0)
		area(t, "no vertices", d, []int{n, -1, 99}, 0)
		area(t, "no vertex, and two", d, []int{n, 0, 1}, -200)
		area(t, "two, and no vertex", d, []int{1, 0, n}, 200)
		area(t, "no vertex among others", d, []int{0, 1, 2, n, 3}, -200+200-100)
	}
}

func TestAreaScattered(t *testing.T) {
	s := source(123456789123456789)
	for i := range 500 {
		d := s.scattered([]int{4, 9, 64}[i%3])
		for _, row := range All(d) {
			area(t, "a loop", d, row, strips(d, row))
			area(t, "a loop turned round", d, turned(row), -strips(d, row))
		}
		var any []int
		for range s.below(12) {
			any = append(any, s.below(len(d.V)))
		}
		area(t, "any row", d, any, strips(d, any))
	}
}
