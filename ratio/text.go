package ratio

import (
	"strings"

	"parquet/api"
	"parquet/wide"
)

// line stands between the two numbers of a fraction's text.
const line = "/"

// maxDigits: no decimal number is told with more digits behind its point.
const maxDigits = 20

// Floor tells the greatest whole number not above a.
func Floor(a api.Rat) (api.Wide, bool) {
	if !Is(a) {
		return api.Wide{}, false
	}
	q, r, _ := wide.DivMod(a.N, a.D)
	if sign(r) < 0 { // towards 0 was upwards
		q, _ = wide.Sub(q, wide.From(1))
	}
	return q, true
}

// Text tells a as it is written, "" if it isn't a fraction.
func Text(a api.Rat) string {
	if !Is(a) {
		return ""
	}
	if isOne(a.D) {
		return wide.Text(a.N)
	}
	return wide.Text(a.N) + line + wide.Text(a.D)
}

// Parse reads what Text tells, and no other text.
func Parse(s string) (api.Rat, bool) {
	above, below, split := strings.Cut(s, line)
	n, ok := wide.Parse(above)
	if !ok {
		return api.Rat{}, false
	}
	if !split {
		return whole(n), true
	}
	d, ok := wide.Parse(below)
	a := api.Rat{N: n, D: d}
	if !ok || isOne(d) || !Is(a) {
		return api.Rat{}, false
	}
	return a, true
}

// Decimal tells the nearest decimal number with so many digits behind a point, of two the one that is greater in amount.
func Decimal(a api.Rat, digits int) (string, bool) {
	if !safe(a) {
		return "", false
	}
	digits = min(max(digits, 0), maxDigits)
	n := nearest(a, digits)
	text := pointed(wide.Text(n), digits)
	if Sign(a) < 0 && sign(n) != 0 {
		text = "-" + text
	}
	return text, true
}

// nearest tells a's amount times 10 to the power of digits, rounded to a whole number, a half upwards.
func nearest(a api.Rat, digits int) api.Wide {
	n, two := a.N, wide.From(2)
	if sign(n) < 0 {
		n = wide.Neg(n)
	}
	for range digits {
		n = times(n, wide.From(10))
	}
	n, _ = wide.Add(times(n, two), a.D)
	q, _, _ := wide.DivMod(n, times(a.D, two))
	return q
}

// pointed puts a point ahead of the last so many digits of s, with a digit ahead of the point at least.
func pointed(s string, digits int) string {
	if digits == 0 {
		return s
	}
	s = strings.Repeat("0", max(digits+1-len(s), 0)) + s
	at := len(s) - digits
	return s[:at] + "." + s[at:]
}
