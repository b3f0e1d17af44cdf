package poly

import (
	"math"
	"slices"
	"testing"

	"parquet/api"
)

// checkSame asks both ways round.
func checkSame(t *testing.T, a, b api.Drawing, want bool) {
	t.Helper()
	if Same(a, b) != want || Same(b, a) != want {
		t.Errorf("P7.2: Same isn't %v of %s and %s", want, show(a), show(b))
	}
}

func TestSame(t *testing.T) {
	l := []api.Drawing{{}, square(t), greatest(t), rawDrawing()}
	for i, a := range l {
		for k, b := range l {
			checkSame(t, a, copied(b), i == k)
		}
	}
	checkSame(t, api.Drawing{}, api.Drawing{V: []api.Vert{}, S: []api.Seg{}, H: []api.Point{}}, true)
}

// TestSameRoom: what lies behind a list is none of it.
func TestSameRoom(t *testing.T) {
	a, b := copied(square(t)), copied(square(t))
	a.V, a.S, a.H = append(a.V, api.Vert{X: 9})[:len(b.V)], append(a.S, api.Seg{A: 9})[:len(b.S)], append(a.H, at(9, 9))[:len(b.H)]
	checkSame(t, a, b, true)
	whole := square(t)
	checkSame(t, api.Drawing{V: whole.V[:2], S: whole.S[:1], H: whole.H[:0]}, api.Drawing{V: slices.Clone(whole.V[:2]), S: slices.Clone(whole.S[:1])}, true)
}

// rawDrawing has what no drawing that may be has.
func rawDrawing() api.Drawing {
	d := api.Drawing{
		V: []api.Vert{{X: math.MaxInt, Y: math.MinInt, Mark: math.MaxInt}, {X: -1, Mark: -1}},
		S: []api.Seg{{A: -1, B: math.MaxInt, Mark: math.MinInt}, {A: 5, B: 5}, {A: math.MinInt, B: 2}},
	}
	for _, a := range none() {
		d.H = append(d.H, api.Point{X: a, Y: raw(1, 2)}, api.Point{X: raw(1, 2), Y: a})
	}
	return d
}

// changes tells copies of d, each changed in one place alone.
func changes(d api.Drawing) []api.Drawing {
	var l []api.Drawing
	change := func(does func(c api.Drawing)) {
		c := copied(d)
		does(c)
		l = append(l, c)
	}
	for i := range d.V {
		change(func(c api.Drawing) { c.V[i].X++ })
		change(func(c api.Drawing) { c.V[i].Y-- })
		change(func(c api.Drawing) { c.V[i].Mark ^= math.MinInt })
	}
	for i := range d.S {
		change(func(c api.Drawing) { c.S[i].A++ })
		change(func(c api.Drawing) { c.S[i].B ^= math.MinInt })
		change(func(c api.Drawing) { c.S[i].Mark-- })
		if d.S[i].A != d.S[i].B {
			change(func(c api.Drawing) { c.S[i].A, c.S[i].B = c.S[i].B, c.S[i].A })
		}
	}
	for i := range d.H {
		for w := range api.Words {
			change(func(c api.Drawing) { c.H[i].X.N.D[w]++ })
			change(func(c api.Drawing) { c.H[i].X.D.D[w]++ })
			change(func(c api.Drawing) { c.H[i].Y.N.D[w]-- })
			change(func(c api.Drawing) { c.H[i].Y.D.D[w]-- })
		}
		change(func(c api.Drawing) { c.H[i].X.N.Neg = !c.H[i].X.N.Neg })
		change(func(c api.Drawing) { c.H[i].Y.N.Neg = !c.H[i].Y.N.Neg })
		change(func(c api.Drawing) { c.H[i].X.D.Neg = !c.H[i].X.D.Neg })
		change(func(c api.Drawing) { c.H[i].Y.D.Neg = !c.H[i].Y.D.Neg })
	}
	return l
}

// lists tells copies of d with one item more, or less, or with two that have changed places.
func lists(d api.Drawing) []api.Drawing {
	var l []api.Drawing
	add := func(does func(c *api.Drawing)) {
		c := copied(d)
		does(&c)
		l = append(l, c)
	}
	for i := range d.V {
		add(func(c *api.Drawing) { c.V = slices.Delete(c.V, i, i+1) })
	}
	for i := range d.S {
		add(func(c *api.Drawing) { c.S = slices.Delete(c.S, i, i+1) })
	}
	for i := range d.H {
		add(func(c *api.Drawing) { c.H = slices.Delete(c.H, i, i+1) })
	}
	add(func(c *api.Drawing) { c.V = append(c.V, api.Vert{}) })
	add(func(c *api.Drawing) { c.S = append(c.S, api.Seg{}) })
	add(func(c *api.Drawing) { c.H = append(c.H, api.Point{}) })
	add(func(c *api.Drawing) { c.V = nil })
	add(func(c *api.Drawing) { c.S = nil })
	add(func(c *api.Drawing) { c.H = nil })
	add(func(c *api.Drawing) { c.V[0], c.V[1] = c.V[1], c.V[0] })
	add(func(c *api.Drawing) { c.S[0], c.S[1] = c.S[1], c.S[0] })
	add(func(c *api.Drawing) { c.H[0], c.H[1] = c.H[1], c.H[0] })
	return l
}

func TestDiffersInOnePlace(t *testing.T) {
	for _, d := range []api.Drawing{square(t), rawDrawing()} {
		for _, c := range append(changes(d), lists(d)...) {
			checkSame(t, d, c, false)
			checkSame(t, c, copied(c), true)
		}
	}
}

// TestNothingIsTouched: what is handed in stays as it is, with the room behind it.
func TestNothingIsTouched(t *testing.T) {
	for _, d := range []api.Drawing{{}, square(t), rawDrawing()} {
		a, b := copied(d), copied(d)
		fill := func(c api.Drawing) api.Drawing {
			return api.Drawing{V: append(c.V, api.Vert{X: 7}, api.Vert{Y: 7}, api.Vert{Mark: 7}), S: append(c.S, api.Seg{A: 7}, api.Seg{B: 7}, api.Seg{Mark: 7}), H: append(c.H, at(7, 7), at(8, 8), at(9, 9))}
		}
		fullA, fullB := fill(a), fill(b)
		want := show(fullA)
		Print(a)
		Same(a, b)
		if show(fullA) != want || show(fullB) != want {
			t.Errorf("P7.2: what is handed in is changed: %s, not %s", show(fullA), want)
		}
	}
}

// TestAnswersAreNew: what is done with one answer, the room behind it too, doesn't touch another.
func TestAnswersAreNew(t *testing.T) {
	want := parsed(t, good)
	first, second := parsed(t, good), parsed(t, good)
	for i := range first.V[:cap(first.V)] {
		first.V[:cap(first.V)][i] = api.Vert{X: 9, Y: 9, Mark: 9}
	}
	for i := range first.S[:cap(first.S)] {
		first.S[:cap(first.S)][i] = api.Seg{A: 9, B: 9, Mark: 9}
	}
	for i := range first.H[:cap(first.H)] {
		first.H[:cap(first.H)][i] = at(9, 9)
	}
	if third := parsed(t, good); show(second) != show(want) || show(third) != show(want) {
		t.Errorf("P7.1: after another answer was changed: %s, %s", show(second), show(third))
	}
}
