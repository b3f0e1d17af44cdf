package poly

import (
	"strconv"
	"strings"
)

// text is written line by line.
type text struct{ strings.Builder }

// words writes a line of these.
func (t *text) words(l ...string) {
	t.WriteString(strings.Join(l, " "))
	t.WriteString(end)
}

// numbers writes a line of these.
func (t *text) numbers(l ...int) {
	var w []string
	for _, n := range l {
		w = append(w, strconv.Itoa(n))
	}
	t.words(w...)
}
