package loop

import (
	"parquet/api"
	"parquet/point"
	"parquet/valid"
)

// ring is a row of a plan's vertices, gone round: behind the last one comes the first.
type ring struct {
	plan
	row []int
}

// behind tells the place behind the i-th.
func (r ring) behind(i int) int {
	return (i + 1) % len(r.row)
}

// area2 tells twice the area. Each side counts with what lies between it and 0, 0; of bounded vertices the sum has room, whatever the row.
func (r ring) area2() int {
	sum := 0
	for i, v := range r.row {
		a, b := r.vert(v), r.vert(r.row[r.behind(i)])
		sum += a.X*b.Y - a.Y*b.X
	}
	return sum
}

// place tells whether p is within, on or without. It is within, if an odd number of sides go by above it.
func (r ring) place(p api.Point) int {
	l, where := r.corners(p), without
	for i, a := range l {
		switch (side{a, l[r.behind(i)]}).by(p) {
		case through:
			return on
		case above:
			where = -where
		}
	}
	return where
}

// corners tells where its vertices are, as they are seen from p.
func (r ring) corners(p api.Point) []corner {
	var l []corner
	for _, v := range r.row {
		at := valid.At(r.Drawing, v)
		order, _ := point.Cmp(at, p)
		l = append(l, corner{at, order})
	}
	return l
}
