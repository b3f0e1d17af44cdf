package loop

import (
	"slices"

	"parquet/api"
	"parquet/valid"
)

// plan is a drawing that may be: each vertex has two neighbours, and its loops keep apart.
type plan struct{ api.Drawing }

// loops tells all loops. As the vertices are taken in order, the first one that no loop has yet is the least one of its own.
func (s plan) loops() [][]int {
	var l [][]int
	near, gone := s.neighbours(), make([]bool, len(s.V))
	for first := range s.V {
		if gone[first] {
			continue
		}
		row := near.round(first)
		for _, v := range row {
			gone[v] = true
		}
		l = append(l, row)
	}
	return l
}

// has tells whether l is one of its loops.
func (s plan) has(l []int) bool {
	return slices.ContainsFunc(s.loops(), func(row []int) bool { return slices.Equal(row, l) })
}

// depth tells how many loops have the k-th one within. Loops keep apart, so that where its first vertex lies all of it does, and none but its own loop has that one on it.
func (s plan) depth(k int) int {
	l, n := s.loops(), 0
	if k < 0 || k >= len(l) {
		return 0
	}
	first := valid.At(s.Drawing, l[k][0])
	for _, row := range l {
		if (ring{s, row}).place(first) == within {
			n++
		}
	}
	return n
}

// vert tells vertex i, one at 0, 0 where there is none.
func (s plan) vert(i int) api.Vert {
	if i < 0 || i >= len(s.V) {
		return api.Vert{}
	}
	return s.V[i]
}

// neighbours tells of each vertex the two that segments join to it.
func (s plan) neighbours() web {
	near := make(web, len(s.V))
	for _, g := range s.S {
		near[g.A] = append(near[g.A], g.B)
		near[g.B] = append(near[g.B], g.A)
	}
	return near
}

// web has both neighbours of each vertex.
type web [][]int

// round tells the vertices of a loop, from first on to the lesser one of its neighbours.
func (w web) round(first int) []int {
	row := []int{first}
	for from, at := first, slices.Min(w[first]); at != first; from, at = at, w.beyond(from, at) {
		row = append(row, at)
	}
	return row
}

// beyond tells where one comes from one vertex by the next.
func (w web) beyond(from, at int) int {
	return w[at][0] + w[at][1] - from
}
