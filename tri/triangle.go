package tri

import (
	"parquet/api"
	"parquet/point"
	"parquet/ratio"
)

// The methods below drop what point and ratio say of room: points of 60 bits make Cross, Dot and Far of 483 at most, which may be reckoned with.

// side leads from one corner to the next.
type side struct{ from, to api.Point }

// far tells its length, squared.
func (s side) far() api.Rat {
	a, _ := point.Far(s.from, s.to)
	return a
}

// turn tells on which side of its line p is: 1 left, -1 right, 0 neither.
func (s side) turn(p api.Point) int {
	n, _ := point.Turn(s.from, s.to, p)
	return n
}

// corner is where its side begins; from there one sees the side's end and one point more.
type corner struct {
	side
	last api.Point
}

// area2 tells twice the area; it is the same at each corner.
func (k corner) area2() api.Rat {
	a, _ := point.Cross(k.from, k.to, k.last)
	return a
}

// dot is above 0 if the corner is less than a right angle.
func (k corner) dot() api.Rat {
	a, _ := point.Dot(k.from, k.to, k.last)
	return a
}

// turnsLeft tells whether the last point is on the left of its side; it is the same at each corner.
func (k corner) turnsLeft() bool {
	return k.turn(k.last) == 1
}

// tangent tells that of the angle; false, and 0, of a right angle or a wider one.
func (k corner) tangent() (api.Rat, bool) {
	dot := k.dot()
	if ratio.Sign(dot) <= 0 {
		return zero(), false
	}
	return ratio.Div(k.area2(), dot)
}

// next tells the corner at its side's end.
func (k corner) next() corner {
	return corner{side: side{from: k.to, to: k.last}, last: k.from}
}

// triangle is known by its first corner: what is the same at each is asked there.
type triangle struct{ corner }

// triangleOf tells the triangle with corners at a, b and c.
func triangleOf(a, b, c api.Point) triangle {
	return triangle{corner{side: side{from: a, to: b}, last: c}}
}

// corners tells all three, each with the side that begins there.
func (t triangle) corners() [3]corner {
	second := t.next()
	return [3]corner{t.corner, second, second.next()}
}

// place tells where p is, if it turns left: then what is within is on the left of all sides, and what lies on a side's line, but on the right of no other side, is on the rim.
func (t triangle) place(p api.Point) int {
	least := 1
	for _, k := range t.corners() {
		least = min(least, k.turn(p))
	}
	return least
}

// sides tells the squared lengths.
func (t triangle) sides() [3]api.Rat {
	var l [3]api.Rat
	for i, k := range t.corners() {
		l[i] = k.far()
	}
	return l
}

// good tells whether it turns left and no corner is below 45 degrees, where dot and area2 are alike.
func (t triangle) good() bool {
	area := t.area2()
	if ratio.Sign(area) != 1 {
		return false
	}
	for _, k := range t.corners() {
		if above(k.dot(), area) {
			return false
		}
	}
	return true
}

func above(a, b api.Rat) bool {
	c, _ := ratio.Cmp(a, b)
	return c > 0
}

// zero tells 0 by 1.
func zero() api.Rat {
	a, _ := ratio.Of(0, 1)
	return a
}
