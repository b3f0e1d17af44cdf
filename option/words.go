package option

import (
	"strconv"
	"strings"

	"parquet/api"
	"parquet/lex"
)

// comma stands between two numbers of a word.
const comma = ","

// take puts into o what one word asks for; false if it is none.
func take(o *api.Options, w string) bool {
	if w == "" {
		return false
	}
	switch w[0] {
	case 'h':
		return read(w[1:], &o.H)
	case 'c':
		return read(w[1:], &o.Cap)
	case 's':
		var s api.Size
		ok := read(w[1:], &s.X, &s.Y, &s.H)
		o.Sizes = append(o.Sizes, s)
		return ok
	}
	return false
}

// read puts the numbers of s into the places; false if there aren't just as many.
func read(s string, places ...*int) bool {
	// one part more than places is enough to see that there are too many
	parts := strings.SplitN(s, comma, len(places)+1)
	if len(parts) != len(places) {
		return false
	}
	for i, p := range places {
		n, ok := lex.Int(parts[i])
		if !ok {
			return false
		}
		*p = n
	}
	return true
}

// word tells a letter and the numbers behind it.
func word(letter string, numbers ...int) string {
	var l []string
	for _, n := range numbers {
		l = append(l, strconv.Itoa(n))
	}
	return letter + strings.Join(l, comma)
}
