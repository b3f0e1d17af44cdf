package valid

import (
	"slices"

	"parquet/api"
	"parquet/point"
)

// maxMark: no vertex and no segment has a greater mark.
const maxMark = 1000000

// sketch is a drawing that is asked whether it may be.
type sketch struct{ api.Drawing }

// formed tells whether all that it says may be understood.
func (s sketch) formed() bool {
	return s.counted() && s.numbered() && !slices.ContainsFunc(s.H, isNone)
}

// counted tells whether there is something, and nowhere too much.
func (s sketch) counted() bool {
	return among(1, api.MaxVerts, len(s.V)) && len(s.S) <= api.MaxSegs && len(s.H) <= api.MaxHoles
}

// numbered tells whether each segment goes from one vertex to another, and all marks may be.
func (s sketch) numbered() bool {
	for _, v := range s.V {
		if !among(0, maxMark, v.Mark) {
			return false
		}
	}
	for _, g := range s.S {
		if !among(0, len(s.V)-1, g.A, g.B) || g.A == g.B || !among(0, maxMark, g.Mark) {
			return false
		}
	}
	return true
}

// bounded tells whether all vertices are in the greatest square, or on its rim.
func (s sketch) bounded() bool {
	for _, v := range s.V {
		if !among(0, api.Side, v.X, v.Y) {
			return false
		}
	}
	return true
}

// twins tells whether some vertex is where another is.
func (s sketch) twins() bool {
	for i, v := range s.V {
		for _, w := range s.V[:i] {
			if v.X == w.X && v.Y == w.Y {
				return true
			}
		}
	}
	return false
}

// looped tells whether each vertex is an end of just two segments.
func (s sketch) looped() bool {
	ends := make([]int, len(s.V))
	for _, g := range s.S {
		ends[g.A]++
		ends[g.B]++
	}
	for _, n := range ends {
		if n != 2 {
			return false
		}
	}
	return true
}

// crossed tells whether two segments meet where they may not.
func (s sketch) crossed() bool {
	l := s.sides()
	for i, a := range l {
		if slices.ContainsFunc(l[:i], a.crosses) {
			return true
		}
	}
	return false
}

// free tells whether all holes' points are within the greatest square, and on no segment.
func (s sketch) free() bool {
	for _, p := range s.H {
		if !within(p) {
			return false
		}
	}
	for _, a := range s.sides() {
		if slices.ContainsFunc(s.H, a.has) {
			return false
		}
	}
	return true
}

// sides tells all segments, each with where its ends are.
func (s sketch) sides() []side {
	var l []side
	for _, g := range s.S {
		l = append(l, side{Seg: g, stretch: stretch{s.V[g.A], s.V[g.B]}})
	}
	return l
}

// among tells whether all numbers are from low to high.
func among(low, high int, numbers ...int) bool {
	for _, n := range numbers {
		if n < low || n > high {
			return false
		}
	}
	return true
}

// isNone tells whether p is no point that may be reckoned with.
func isNone(p api.Point) bool {
	return !point.Is(p)
}
