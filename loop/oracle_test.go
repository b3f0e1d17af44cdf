package loop

import (
	"math/big"

	"parquet/api"
	"parquet/ratio"
)

// big number of a fraction.
func number(a api.Rat) *big.Rat {
	x, ok := new(big.Rat).SetString(ratio.Text(a))
	if !ok {
		panic("no fraction")
	}
	return x
}

func less(a, b *big.Rat) *big.Rat  { return new(big.Rat).Sub(a, b) }
func times(a, b *big.Rat) *big.Rat { return new(big.Rat).Mul(a, b) }
func whole(n int) *big.Rat         { return big.NewRat(int64(n), 1) }

// across tells above 0, if x, y lies left of the way from a to b, below 0, if right.
func across(a, b api.Vert, x, y *big.Rat) int {
	return times(whole(b.X-a.X), less(y, whole(a.Y))).Cmp(times(whole(b.Y-a.Y), less(x, whole(a.X))))
}

// beside tells whether n is from a to b, or from b to a.
func beside(a, b int, n *big.Rat) bool {
	return n.Cmp(whole(min(a, b))) >= 0 && n.Cmp(whole(max(a, b))) <= 0
}

// winding tells where a point is by how often the row goes round it: what comes up on its right counts, what goes down counts the other way.
func winding(d api.Drawing, row []int, p api.Point) int {
	x, y, n := number(p.X), number(p.Y), 0
	for i, v := range row {
		a, b := d.V[v], d.V[row[(i+1)%len(row)]]
		turn := across(a, b, x, y)
		if turn == 0 && beside(a.X, b.X, x) && beside(a.Y, b.Y, y) {
			return 0
		}
		from, to := whole(a.Y).Cmp(y) <= 0, whole(b.Y).Cmp(y) <= 0
		if from && !to && turn > 0 {
			n++
		}
		if !from && to && turn < 0 {
			n--
		}
	}
	if n != 0 {
		return 1
	}
	return -1
}
