package valid

import (
	"parquet/api"
	"parquet/line"
	"parquet/point"
)

// What two segments may have in common, as line's Meet tells it.
const (
	nothing = iota
	anEnd
)

// spot tells where v is.
func spot(v api.Vert) api.Point {
	return point.At(v.X, v.Y)
}

// stretch goes straight from one place to another; both are bounded.
type stretch struct{ from, to api.Vert }

// turn tells above 0, below 0 or 0: v is on the left of its line, on the right, on it.
func (s stretch) turn(v api.Vert) int {
	return (s.to.X-s.from.X)*(v.Y-s.from.Y) - (s.to.Y-s.from.Y)*(v.X-s.from.X)
}

// has tells whether p lies on it.
func (s stretch) has(p api.Point) bool {
	on, _ := line.On(spot(s.from), spot(s.to), p)
	return on
}

// meet tells what both have in common.
func (s stretch) meet(t stretch) int {
	n, _ := line.Meet(spot(s.from), spot(s.to), spot(t.from), spot(t.to))
	return n
}

// side is a segment of a drawing: which vertices its ends are, and where they are.
type side struct {
	api.Seg
	stretch
}

// joins tells whether an end of both is the same vertex.
func (s side) joins(t side) bool {
	return s.A == t.A || s.A == t.B || s.B == t.A || s.B == t.B
}

// may tells what both may have in common.
func (s side) may(t side) int {
	if s.joins(t) {
		return anEnd
	}
	return nothing
}

// leaves tells whether t lies on one side of s's line, but for the end that both may have: then there is nothing else that they have in common.
func (s side) leaves(t side) bool {
	from, to := s.turn(t.from), s.turn(t.to)
	if s.joins(t) {
		return from != to // one is 0
	}
	return from > 0 && to > 0 || from < 0 && to < 0
}

// crosses tells whether both have in common what they may not.
// The layers above ask Check of each square anew, and with fractions to meet takes some thousand times as long as to leave: so most are settled by whole numbers.
func (s side) crosses(t side) bool {
	if s.leaves(t) || t.leaves(s) {
		return false
	}
	return s.meet(t.stretch) != s.may(t)
}

// within tells whether p is above 0 and below Side both ways. What is level with p follows by X alone, what is upright above and below it by Y.
func within(p api.Point) bool {
	low, high := point.At(0, 0), point.At(api.Side, api.Side)
	return rise(api.Point{X: low.X, Y: p.Y}, p, api.Point{X: high.X, Y: p.Y}) &&
		rise(api.Point{X: p.X, Y: low.Y}, p, api.Point{X: p.X, Y: high.Y})
}

// rise tells whether each is ahead of the next one.
func rise(a, b, c api.Point) bool {
	first, _ := point.Cmp(a, b)
	second, _ := point.Cmp(b, c)
	return first < 0 && second < 0
}
