package loop

import (
	"parquet/api"
	"parquet/point"
)

// How a side goes by a point.
const (
	aside = iota // not at all, or below it
	through
	above
)

// corner is where a vertex is, and whether that is ahead of a point (-1), there (0) or behind it (1), by X, then Y.
type corner struct {
	api.Point
	order int
}

// side goes from one corner to another, both seen from one point.
type side struct{ from, to corner }

// by tells how it goes by that point, p; its ends are not in one place.
// What is ahead of p lies on one side of a line through p that is all but upright, what is behind it on the other one: so no corner but one at p is ever on that line.
func (s side) by(p api.Point) int {
	if s.from.order == s.to.order {
		return aside
	}
	turn, _ := point.Turn(s.from.Point, s.to.Point, p)
	switch turn {
	case 0: // an end of it may be p
		return through
	case s.from.order: // going right it has p on its right, going left on its left
		return above
	}
	return aside
}
