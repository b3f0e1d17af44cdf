package poly

import (
	"strings"

	"parquet/api"
	"parquet/lex"
)

// mostItems: no list of a text is longer.
const mostItems = 1000

// end is what lines end with.
const end = "\n"

// reader is at one line of a text, which is asked for its words; it never leaves one that is wrong.
type reader struct {
	line
	rest []api.Line
}

// readerOf tells one that is ahead of the first line. Behind the last one it finds a line without words: what it is asked for lacks there.
func readerOf(s string) *reader {
	behind := api.Line{Number: countLines(s) + 1}
	return &reader{rest: append(lex.Lines(s), behind)}
}

// countLines tells how many lines s has, those without a word too.
func countLines(s string) int {
	n := strings.Count(s, end)
	if s != "" && !strings.HasSuffix(s, end) {
		n++
	}
	return n
}

// next comes to the line behind, if all is well so far. Each line that is come to is asked for a word at least, but the last one, so there always is one.
func (r *reader) next() {
	r.finish()
	if r.wrong {
		return
	}
	r.line, r.rest = line{Line: r.rest[0]}, r.rest[1:]
}

// drawing reads all there is.
func (r *reader) drawing() api.Drawing {
	var d api.Drawing
	var first int
	d.V, first = r.vertices()
	d.S = r.segments(first, first+len(d.V)-1)
	d.H = r.holes()
	r.end()
	return d
}

// end asks that no line is left: nothing is wanted of the one that is come to.
func (r *reader) end() {
	r.next()
	r.finish()
}

// vertices reads these, and tells the number of the first one, too.
func (r *reader) vertices() ([]api.Vert, int) {
	r.next()
	count := r.among(0, mostItems)
	r.among(2, 2)
	attributes := r.among(0, 2)
	marked := r.among(0, 1)
	return list(r, count, func() api.Vert {
		v := api.Vert{X: r.number(), Y: r.number()}
		r.skip(attributes)
		v.Mark = r.mark(marked)
		return v
	})
}

// segments reads these; the vertices have numbers from low to high.
func (r *reader) segments(low, high int) []api.Seg {
	r.next()
	count := r.among(0, mostItems)
	marked := r.among(0, 1)
	l, _ := list(r, count, func() api.Seg {
		return api.Seg{A: r.among(low, high) - low, B: r.among(low, high) - low, Mark: r.mark(marked)}
	})
	return l
}

func (r *reader) holes() []api.Point {
	r.next()
	count := r.among(0, mostItems)
	l, _ := list(r, count, func() api.Point {
		return api.Point{X: r.fraction(), Y: r.fraction()}
	})
	return l
}

// list reads so many lines, each with its number ahead of one item, and tells the first number, too: 0 or 1, as that line says.
func list[T any](r *reader, count int, item func() T) ([]T, int) {
	var l []T
	first := 0
	for i := 0; i < count && !r.wrong; i++ {
		r.next()
		number := r.among(i, i+1)
		if i == 0 {
			first = number
		}
		r.must(number == first+i)
		l = append(l, item())
	}
	return l, first
}
