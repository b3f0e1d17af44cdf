package line

import (
	"math/big"

	"parquet/api"
)

// vector is told by math/big.
type vector struct{ x, y *big.Rat }

func fromTo(a, b api.Point) vector {
	return vector{new(big.Rat).Sub(toBig(b.X), toBig(a.X)), new(big.Rat).Sub(toBig(b.Y), toBig(a.Y))}
}

func (v vector) cross(w vector) *big.Rat {
	return new(big.Rat).Sub(new(big.Rat).Mul(v.x, w.y), new(big.Rat).Mul(v.y, w.x))
}

func (v vector) none() bool { return v.x.Sign() == 0 && v.y.Sign() == 0 }

// isShare tells whether x is from 0 to 1.
func isShare(x *big.Rat) bool { return x.Sign() >= 0 && x.Cmp(big.NewRat(1, 1)) <= 0 }

// part tells which part of v (not none) w is, if it is one.
func (v vector) part(w vector) (*big.Rat, bool) {
	if v.cross(w).Sign() != 0 {
		return nil, false
	}
	if v.x.Sign() != 0 {
		return new(big.Rat).Quo(w.x, v.x), true
	}
	return new(big.Rat).Quo(w.y, v.y), true
}

// bigOn seeks the share of the segment's way at which p lies.
func bigOn(a, b, p api.Point) bool {
	v := fromTo(a, b)
	if v.none() {
		return fromTo(a, p).none()
	}
	t, ok := v.part(fromTo(a, p))
	return ok && isShare(t)
}

// bigMeet solves where the lines meet, or seeks the stretch that both have of one line.
func bigMeet(a, b, c, d api.Point) int {
	v, w := fromTo(a, b), fromTo(c, d)
	if v.none() {
		return bigMeetOne(a, c, d)
	}
	if w.none() {
		return bigMeetOne(c, a, b)
	}
	across := v.cross(w)
	if across.Sign() == 0 {
		return bigMeetAlong(a, b, c, d)
	}
	t := new(big.Rat).Quo(fromTo(a, c).cross(w), across)
	u := new(big.Rat).Quo(fromTo(a, c).cross(v), across)
	if !isShare(t) || !isShare(u) {
		return 0
	}
	if (t.Sign() == 0 || t.Cmp(big.NewRat(1, 1)) == 0) && (u.Sign() == 0 || u.Cmp(big.NewRat(1, 1)) == 0) {
		return 1
	}
	return 2
}

// bigMeetOne: one of the segments is p alone.
func bigMeetOne(p, c, d api.Point) int {
	if !bigOn(c, d, p) {
		return 0
	}
	if p == c || p == d {
		return 1
	}
	return 2
}

// bigMeetAlong: both go the same way, or to and fro.
func bigMeetAlong(a, b, c, d api.Point) int {
	v := fromTo(a, b)
	t, ok := v.part(fromTo(a, c))
	if !ok {
		return 0
	}
	u, _ := v.part(fromTo(a, d))
	if t.Cmp(u) > 0 {
		t, u = u, t
	}
	if u.Sign() < 0 || t.Cmp(big.NewRat(1, 1)) > 0 {
		return 0
	}
	if u.Sign() == 0 || t.Cmp(big.NewRat(1, 1)) == 0 {
		return 1
	}
	return 2
}

// bigYAt weighs both ends' Y; false likewise.
func bigYAt(a, b api.Point, x api.Rat) (api.Rat, bool) {
	from, to, at := toBig(a.X), toBig(b.X), toBig(x)
	low, high := from, to
	if low.Cmp(high) > 0 {
		low, high = high, low
	}
	if low.Cmp(high) == 0 || at.Cmp(low) < 0 || at.Cmp(high) > 0 {
		return api.Rat{}, false
	}
	y := new(big.Rat).Mul(toBig(a.Y), new(big.Rat).Sub(to, at))
	y.Add(y, new(big.Rat).Mul(toBig(b.Y), new(big.Rat).Sub(at, from)))
	return fromBig(y.Quo(y, new(big.Rat).Sub(to, from))), true
}
