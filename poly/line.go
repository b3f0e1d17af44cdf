package poly

import (
	"parquet/api"
	"parquet/lex"
	"parquet/ratio"
)

// line is one of a text's; its Words are those that it hasn't been asked for yet.
// Once it is wrong it stays so, so that one may ask on and look at the end.
type line struct {
	api.Line
	wrong bool
}

// must makes the line wrong if something doesn't hold.
func (l *line) must(hold bool) {
	if !hold {
		l.wrong = true
	}
}

// finish is told a line of which nothing more is wanted: then it has no more words.
func (l *line) finish() {
	l.must(len(l.Words) == 0)
}

// word takes the next one.
func (l *line) word() string {
	if len(l.Words) == 0 {
		l.wrong = true
		return ""
	}
	w := l.Words[0]
	l.Words = l.Words[1:]
	return w
}

// skip takes so many words, whatever they are.
func (l *line) skip(count int) {
	for range count {
		l.word()
	}
}

// number takes a whole one.
func (l *line) number() int {
	n, ok := lex.Int(l.word())
	l.must(ok)
	return n
}

// among takes a number from low to high.
func (l *line) among(low, high int) int {
	n := l.number()
	l.must(low <= n && n <= high)
	return n
}

// mark takes one, if marks are told at all.
func (l *line) mark(told int) int {
	if told == 0 {
		return 0
	}
	return l.number()
}

// fraction takes one.
func (l *line) fraction() api.Rat {
	a, ok := ratio.Parse(l.word())
	l.must(ok)
	return a
}
