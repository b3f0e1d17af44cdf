package lex

import (
	"strconv"
	"strings"

	"parquet/api"
)

// show tells lines so that no two lists look alike.
func show(l []api.Line) string {
	s := []string{}
	for _, line := range l {
		row := []string{strconv.Itoa(line.Number)}
		for _, w := range line.Words {
			row = append(row, strconv.Quote(w))
		}
		s = append(s, strings.Join(row, " "))
	}
	return strings.Join(s, "; ")
}

// texts hands over all texts of at most so many of these letters.
func texts(letters string, most int, each func(s string)) {
	var grow func(s string, left int)
	grow = func(s string, left int) {
		each(s)
		if left == 0 {
			return
		}
		for i := range len(letters) {
			grow(s+letters[i:i+1], left-1)
		}
	}
	grow("", most)
}

// source gives the same numbers in each run.
type source uint64

func (s *source) next() uint64 {
	*s ^= *s << 13
	*s ^= *s >> 7
	*s ^= *s << 17
	return uint64(*s)
}

// text gives one of at most so many bytes: half of them of letters, half of them any.
func (s *source) text(letters string, most uint64) string {
	b := make([]byte, s.next()%(most+1))
	for i := range b {
		n := s.next() >> 8
		b[i] = byte(n >> 32)
		if n&1 == 0 {
			b[i] = letters[n>>32%uint64(len(letters))]
		}
	}
	return string(b)
}
