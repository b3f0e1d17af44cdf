package valid

import (
	"math/big"
	"testing"

	"parquet/api"
	"parquet/line"
	"parquet/point"
	"parquet/ratio"
)

// literal reads the promise word by word, and asks line's Meet of each two segments; it takes its time.
func literal(d api.Drawing) api.Errno {
	if e := literalForm(d); e != api.OK {
		return e
	}
	for i, a := range d.S {
		for _, b := range d.S[:i] {
			n, ok := line.Meet(At(d, a.A), At(d, a.B), At(d, b.A), At(d, b.B))
			common := a.A == b.A || a.A == b.B || a.B == b.A || a.B == b.B
			if !ok || n == 2 || common && n != 1 || !common && n != 0 {
				return api.ErrCross
			}
		}
	}
	for _, p := range d.H {
		if !literalBetween(p.X) || !literalBetween(p.Y) {
			return api.ErrHole
		}
		for _, a := range d.S {
			if on, ok := line.On(At(d, a.A), At(d, a.B), p); on || !ok {
				return api.ErrHole
			}
		}
	}
	return api.OK
}

// literalForm tells what there is to tell ahead of ErrCross.
func literalForm(d api.Drawing) api.Errno {
	wrong := map[api.Errno]bool{}
	wrong[api.ErrForm] = len(d.V) == 0 || len(d.V) > 16 || len(d.S) > 16 || len(d.H) > 4
	places, ends := map[[2]int]int{}, map[int]int{}
	for _, v := range d.V {
		wrong[api.ErrForm] = wrong[api.ErrForm] || v.Mark < 0 || v.Mark > 1000000
		wrong[api.ErrBound] = wrong[api.ErrBound] || v.X < 0 || v.X > 64 || v.Y < 0 || v.Y > 64
		places[[2]int{v.X, v.Y}]++
	}
	wrong[api.ErrTwin] = len(places) < len(d.V)
	for _, s := range d.S {
		wrong[api.ErrForm] = wrong[api.ErrForm] || s.A < 0 || s.A >= len(d.V) || s.B < 0 || s.B >= len(d.V) || s.A == s.B || s.Mark < 0 || s.Mark > 1000000
		ends[s.A]++
		ends[s.B]++
	}
	for i := range d.V {
		wrong[api.ErrLoop] = wrong[api.ErrLoop] || ends[i] != 2
	}
	for _, p := range d.H {
		wrong[api.ErrForm] = wrong[api.ErrForm] || !point.Is(p)
	}
	for _, e := range []api.Errno{api.ErrForm, api.ErrBound, api.ErrTwin, api.ErrLoop} {
		if wrong[e] {
			return e
		}
	}
	return api.OK
}

func literalBetween(a api.Rat) bool {
	x, _ := new(big.Rat).SetString(ratio.Text(a))
	return x.Sign() > 0 && x.Cmp(big.NewRat(api.Side, 1)) < 0
}

// shares tells where on their ways two segments meet, a share of each, if they aren't of one direction.
func shares(a, b, c, d api.Vert) (t, u *big.Rat, ok bool) {
	cross := func(p, q, r, s api.Vert) int64 {
		return int64(q.X-p.X)*int64(s.Y-r.Y) - int64(q.Y-p.Y)*int64(s.X-r.X)
	}
	across := cross(a, b, c, d)
	if across == 0 {
		return nil, nil, false
	}
	return big.NewRat(cross(a, c, c, d), across), big.NewRat(cross(a, c, a, b), across), true
}

// apart tells by whole numbers alone whether two segments keep apart, but for a common vertex; no two vertices are in one place.
func apart(d api.Drawing, s, r api.Seg) bool {
	a, b, c, e := d.V[s.A], d.V[s.B], d.V[r.A], d.V[r.B]
	common := s.A == r.A || s.A == r.B || s.B == r.A || s.B == r.B
	if t, u, ok := shares(a, b, c, e); ok {
		one := big.NewRat(1, 1)
		return common || t.Sign() < 0 || u.Sign() < 0 || t.Cmp(one) > 0 || u.Cmp(one) > 0
	}
	if _, _, ok := shares(a, b, a, c); ok { // side by side: were there a common vertex, they would be in one line
		return true
	}
	if _, _, ok := shares(a, b, a, e); ok {
		return true
	}
	along := func(v api.Vert) int { return (v.X-a.X)*(b.X-a.X) + (v.Y-a.Y)*(b.Y-a.Y) }
	low, high := min(along(c), along(e)), max(along(c), along(e))
	if common {
		return high == 0 || low == along(b)
	}
	return high < 0 || low > along(b)
}

// whole tells Check of drawings without a hole's point, by literalForm and by apart.
func whole(d api.Drawing) api.Errno {
	if e := literalForm(d); e != api.OK {
		return e
	}
	for i, s := range d.S {
		for _, r := range d.S[:i] {
			if !apart(d, s, r) {
				return api.ErrCross
			}
		}
	}
	return api.OK
}

// against holds Check against one of these, and counts what is told.
func against(t *testing.T, count map[api.Errno]int, d api.Drawing, oracle func(api.Drawing) api.Errno) {
	t.Helper()
	want := oracle(d)
	if got := Check(d); got != want {
		t.Fatalf("P9.1: %v, not %v: %s", got, want, show(d))
	}
	count[want]++
}

// enough asks that each of these was told.
func enough(t *testing.T, count map[api.Errno]int, least int, l ...api.Errno) {
	t.Helper()
	for _, e := range l {
		if count[e] < least {
			t.Errorf("just %d of %v: %v", count[e], e, count)
		}
	}
}

// lattice are all places of a small square.
func lattice(side int) [][2]int {
	var l [][2]int
	for i := range side * side {
		l = append(l, [2]int{i / side, i % side})
	}
	return l
}

// TestAllTriangles and TestAllFours try all loops of three and of four vertices on a small lattice: each two segments that may have a common end, and each two that have none.
func TestAllTriangles(t *testing.T) {
	count := map[api.Errno]int{}
	l := lattice(5)
	for _, a := range l {
		for _, b := range l {
			for _, c := range l {
				against(t, count, drawn([]int{a[0], a[1], b[0], b[1], c[0], c[1]}), whole)
			}
		}
	}
	enough(t, count, 500, api.OK, api.ErrTwin, api.ErrCross)
}

func TestAllFours(t *testing.T) {
	count := map[api.Errno]int{}
	l := lattice(4)
	for _, a := range l {
		for _, b := range l {
			for _, c := range l {
				for _, e := range l {
					against(t, count, drawn([]int{a[0], a[1], b[0], b[1], c[0], c[1], e[0], e[1]}), whole)
				}
			}
		}
	}
	enough(t, count, 5000, api.OK, api.ErrTwin, api.ErrCross)
}

// scattered gives loops of three to six vertices, in bounds of this side, and some holes' points.
func (s *source) scattered(side, holes int) api.Drawing {
	var rows [][]int
	for range 1 + s.below(2) {
		var row []int
		for range 3 + s.below(4) {
			row = append(row, s.below(side+1), s.below(side+1))
		}
		rows = append(rows, row)
	}
	d := drawn(rows...)
	for range s.below(holes + 1) {
		d.H = append(d.H, pt(int64(s.below(4*side+4))-1, 1+int64(s.below(3)), int64(s.below(4*side+4))-1, 1+int64(s.below(3))))
	}
	return d
}

// TestScattered holds random loops, close together and far apart, against whole numbers.
func TestScattered(t *testing.T) {
	s, count := source(88172645463325252), map[api.Errno]int{}
	for i := range 40000 {
		d := s.scattered([]int{3, 6, 12, 64}[i%4], 0)
		against(t, count, d, whole)
	}
	enough(t, count, 2000, api.OK, api.ErrTwin, api.ErrCross)
}

// TestLiteral holds random loops with holes' points against the promise's words.
func TestLiteral(t *testing.T) {
	s, count := source(362436069362436069), map[api.Errno]int{}
	for i := range 3000 {
		d := s.scattered([]int{4, 8, 64}[i%3], api.MaxHoles)
		for range s.below(2) {
			s.spoil(&d)
		}
		against(t, count, d, literal)
	}
	enough(t, count, 50, api.OK, api.ErrForm, api.ErrBound, api.ErrTwin, api.ErrLoop, api.ErrCross, api.ErrHole)
}

// spoil changes one number.
func (s *source) spoil(d *api.Drawing) {
	k, i := s.below(len(d.S)), s.below(len(d.V))
	switch s.below(6) {
	case 0:
		d.S[k].A = s.below(len(d.V)+2) - 1
	case 1:
		d.S[k].B = s.below(len(d.V)+2) - 1
	case 2:
		d.V[i].X = s.below(80) - 8
	case 3:
		d.V[i].Y = s.below(80) - 8
	case 4:
		d.S[k].Mark, d.V[i].Mark = s.below(2)*1000001, s.below(2000000)-1000
	case 5:
		d.S = append(d.S[:k], d.S[k+1:]...)
	}
}
