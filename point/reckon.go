package point

import (
	"parquet/api"
	"parquet/ratio"
)

// maxMid: no more points have a middle.
const maxMid = 4

// vector leads from one point to another; its numbers may be longer than a point's.
type vector struct{ x, y api.Rat }

// between tells the vector from a to b.
func between(a, b api.Point) vector {
	return vector{x: less(b.X, a.X), y: less(b.Y, a.Y)}
}

// less and times drop what ratio says of room: numbers of 60 bits make differences of 121, products of these of 242, sums of two products of 483.
// Were there none, the zero that they answer isn't safe, and the last call would say so.
func less(a, b api.Rat) api.Rat {
	c, _ := ratio.Sub(a, b)
	return c
}

func times(a, b api.Rat) api.Rat {
	c, _ := ratio.Mul(a, b)
	return c
}

// Cross tells how much of an area, with its sign, the vectors from a to b and to c span.
func Cross(a, b, c api.Point) (api.Rat, bool) {
	if !are(a, b, c) {
		return api.Rat{}, false
	}
	v, w := between(a, b), between(a, c)
	return ratio.Sub(times(v.x, w.y), times(v.y, w.x))
}

// Dot tells how far the vectors from a to b and to c go the same way.
func Dot(a, b, c api.Point) (api.Rat, bool) {
	if !are(a, b, c) {
		return api.Rat{}, false
	}
	v, w := between(a, b), between(a, c)
	return ratio.Add(times(v.x, w.x), times(v.y, w.y))
}

// Turn tells which way one goes at b, from a on to c: 1 left, -1 right, 0 straight.
func Turn(a, b, c api.Point) (int, bool) {
	x, ok := Cross(a, b, c)
	return ratio.Sign(x), ok
}

// Far tells the squared distance.
func Far(a, b api.Point) (api.Rat, bool) {
	return Dot(a, b, b)
}

// Mid tells the middle of one to four points; its numbers may be longer than a point's.
func Mid(l ...api.Point) (api.Point, bool) {
	if len(l) == 0 || len(l) > maxMid || !are(l...) {
		return api.Point{}, false
	}
	var x, y []api.Rat
	for _, p := range l {
		x, y = append(x, p.X), append(y, p.Y)
	}
	return api.Point{X: mean(x...), Y: mean(y...)}, true
}

// mean tells all numbers together by how many; there are one to four, so they have room.
func mean(l ...api.Rat) api.Rat {
	sum, _ := ratio.Sum(l...)
	a, _ := ratio.Div(sum, whole(len(l)))
	return a
}
