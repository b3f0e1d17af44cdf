package line

import (
	"parquet/api"
	"parquet/point"
)

// What two segments have in common.
const (
	nothing   = iota
	anEnd     // just one point, an end of both
	otherwise // one that isn't, or more
)

// box is level and upright, as wide and as high as a segment.
// It is asked ahead of a turn, which takes far longer to reckon.
type box struct{ across, up span }

// covers tells whether p is in it, or on its rim.
func (b box) covers(p api.Point) bool {
	return b.across.holds(p.X) && b.up.holds(p.Y)
}

// reaches tells whether it has a point in common with another.
func (b box) reaches(c box) bool {
	return b.across.overlaps(c.across) && b.up.overlaps(c.up)
}

// segment is what its box has of the line from a to b; its points may be reckoned with.
type segment struct {
	box
	a, b api.Point
}

// between tells the segment from a to b.
func between(a, b api.Point) segment {
	return segment{box: box{across: span{a.X, b.X}, up: span{a.Y, b.Y}}, a: a, b: b}
}

// side tells on which side of it p is: 1 left, -1 right, 0 neither.
func (s segment) side(p api.Point) int {
	n, _ := point.Turn(s.a, s.b, p)
	return n
}

// has tells whether p lies on it; where both ends are one, no side is told, and the box alone decides.
func (s segment) has(p api.Point) bool {
	return s.covers(p) && s.side(p) == 0
}

// ends tells whether p is an end of it; in lowest terms a fraction is written in one way alone.
func (s segment) ends(p api.Point) bool {
	return p == s.a || p == s.b
}

// splits tells whether t's ends are on unlike sides of it.
func (s segment) splits(t segment) bool {
	return s.side(t.a)*s.side(t.b) < 0
}

// crosses tells whether they meet in a point that is an end of neither.
func (s segment) crosses(t segment) bool {
	return s.reaches(t.box) && s.splits(t) && t.splits(s)
}

// shared tells the ends of t that lie on it.
func (s segment) shared(t segment) []api.Point {
	var l []api.Point
	for _, p := range []api.Point{t.a, t.b} {
		if s.has(p) {
			l = append(l, p)
		}
	}
	return l
}

// meet tells what they have in common. Segments of one line have what lies between those ends that both have, so where these are one point there is no other.
func (s segment) meet(t segment) int {
	l := append(s.shared(t), t.shared(s)...)
	if len(l) == 0 {
		return s.past(t)
	}
	for _, p := range l {
		if p != l[0] || !s.ends(p) || !t.ends(p) {
			return otherwise
		}
	}
	return anEnd
}

// past tells what they have in common if no end of one lies on the other.
func (s segment) past(t segment) int {
	if s.crosses(t) {
		return otherwise
	}
	return nothing
}
