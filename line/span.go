package line

import (
	"parquet/api"
	"parquet/ratio"
)

// span goes from one number to another, up or down, or stays.
type span struct{ from, to api.Rat }

// still tells whether it stays where it begins; in lowest terms a fraction is written in one way alone.
func (s span) still() bool {
	return s.from == s.to
}

// holds tells whether x isn't on one side of both ends.
func (s span) holds(x api.Rat) bool {
	return order(s.from, x)*order(x, s.to) >= 0
}

// overlaps tells whether some number is held by both; then an end of one is.
func (s span) overlaps(t span) bool {
	return s.holds(t.from) || s.holds(t.to) || t.holds(s.from)
}

// way tells how far it goes, below 0 if down.
func (s span) way() api.Rat {
	return less(s.to, s.from)
}

// course follows a segment: as one number goes along its span, the other one goes along its own.
type course struct {
	span
	other span
}

// at tells where the other number is when the first is at x.
func (c course) at(x api.Rat) (api.Rat, bool) {
	if c.still() || !c.holds(x) {
		return api.Rat{}, false
	}
	share := by(less(x, c.from), c.way())
	return ratio.Add(c.other.from, times(share, c.other.way()))
}

// order, less, times and by drop what ratio says of room: numbers of 60 bits make differences of 121, shares of 241, products of shares and differences of 362.
func order(a, b api.Rat) int {
	c, _ := ratio.Cmp(a, b)
	return c
}

func less(a, b api.Rat) api.Rat {
	c, _ := ratio.Sub(a, b)
	return c
}

func times(a, b api.Rat) api.Rat {
	c, _ := ratio.Mul(a, b)
	return c
}

func by(a, b api.Rat) api.Rat {
	c, _ := ratio.Div(a, b)
	return c
}
