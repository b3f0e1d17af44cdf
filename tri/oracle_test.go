package tri

import (
	"math/big"

	"parquet/api"
)

// vector is told by math/big.
type vector struct{ x, y *big.Rat }

func fromTo(a, b api.Point) vector {
	return vector{new(big.Rat).Sub(toBig(b.X), toBig(a.X)), new(big.Rat).Sub(toBig(b.Y), toBig(a.Y))}
}

func (v vector) cross(w vector) *big.Rat {
	return new(big.Rat).Sub(new(big.Rat).Mul(v.x, w.y), new(big.Rat).Mul(v.y, w.x))
}

func (v vector) square() *big.Rat {
	return new(big.Rat).Add(new(big.Rat).Mul(v.x, v.x), new(big.Rat).Mul(v.y, v.y))
}

// bigArea2 adds what is below each side, down to the level 0, as one goes round.
func bigArea2(a, b, c api.Point) *big.Rat {
	sum := new(big.Rat)
	for _, l := range rounds(a, b, c) {
		high := new(big.Rat).Add(toBig(l[0].Y), toBig(l[1].Y))
		sum.Sub(sum, high.Mul(high, fromTo(l[0], l[1]).x))
	}
	return sum
}

// bigPlace seeks by which shares of both sides at a one comes to p; false of what doesn't turn left.
func bigPlace(a, b, c, p api.Point) (int, bool) {
	v, w, q := fromTo(a, b), fromTo(a, c), fromTo(a, p)
	area := v.cross(w)
	if area.Sign() <= 0 {
		return 0, false
	}
	s, u := new(big.Rat).Quo(q.cross(w), area), new(big.Rat).Quo(v.cross(q), area)
	rest := new(big.Rat).Sub(big.NewRat(1, 1), s)
	rest.Sub(rest, u)
	return min(s.Sign(), u.Sign(), rest.Sign()), true
}

// bigDot takes the law of cosines.
func bigDot(a, b, c api.Point) *big.Rat {
	x := new(big.Rat).Add(fromTo(a, b).square(), fromTo(a, c).square())
	x.Sub(x, fromTo(b, c).square())
	return x.Mul(x, big.NewRat(1, 2))
}

// bigSharp tells the tangent at a, if the corner is below 90 degrees.
func bigSharp(a, b, c api.Point) (api.Rat, bool) {
	dot := bigDot(a, b, c)
	if dot.Sign() <= 0 {
		return fromBig(new(big.Rat)), false
	}
	return fromBig(dot.Quo(bigArea2(a, b, c), dot)), true
}

// bigGood holds squared cosines against a half.
func bigGood(a, b, c api.Point) bool {
	if bigArea2(a, b, c).Sign() <= 0 {
		return false
	}
	for _, l := range rounds(a, b, c) {
		dot := bigDot(l[0], l[1], l[2])
		double := new(big.Rat).Mul(dot, dot)
		double.Add(double, double)
		whole := new(big.Rat).Mul(fromTo(l[0], l[1]).square(), fromTo(l[0], l[2]).square())
		if dot.Sign() > 0 && double.Cmp(whole) > 0 {
			return false
		}
	}
	return true
}

// bigAlong tells the point at a share s of the way from a to b, and u of the way from a to c.
func bigAlong(a, b, c api.Point, s, u *big.Rat) api.Point {
	v, w := fromTo(a, b), fromTo(a, c)
	move := func(from api.Rat, first, second *big.Rat) api.Rat {
		x := new(big.Rat).Add(toBig(from), new(big.Rat).Mul(s, first))
		return fromBig(x.Add(x, new(big.Rat).Mul(u, second)))
	}
	return api.Point{X: move(a.X, v.x, w.x), Y: move(a.Y, v.y, w.y)}
}
