package wide

import (
	"parquet/api"
)

// A text is made and read by groups of so many digits: groupTop, what comes after the greatest group, fits a word.
const (
	groupDigits = 9
	groupTop    = 1000000000
)

// maxText: no text that Parse reads has more bytes.
const maxText = 400

// Text tells a's decimal digits, - ahead of what is below 0.
func Text(a api.Wide) string {
	var buf [maxText]byte
	at := len(buf)
	rest, n := a.D, length(a.D)
	for n > 0 {
		var group uint32
		rest, group = divideWord(rest, groupTop)
		n = length(rest)
		for i := 0; i < groupDigits && (n > 0 || group > 0); i++ {
			at--
			buf[at] = '0' + byte(group%10)
			group /= 10
		}
	}
	if at == len(buf) {
		return "0"
	}
	if a.Neg {
		at--
		buf[at] = '-'
	}
	return string(buf[at:])
}

// Parse reads what Text tells, and no other text.
func Parse(s string) (api.Wide, bool) {
	if len(s) > maxText {
		return api.Wide{}, false
	}
	if s == "0" {
		return api.Wide{}, true
	}
	neg := len(s) > 0 && s[0] == '-'
	if neg {
		s = s[1:]
	}
	if !plainDigits(s) {
		return api.Wide{}, false
	}
	d, ok := fromDigits(s)
	return fitting(neg, d, ok)
}

// plainDigits tells whether s is digits alone, at least one, the first of them not 0.
func plainDigits(s string) bool {
	if len(s) == 0 || s[0] == '0' {
		return false
	}
	for i := range len(s) {
		if s[i] < '0' || s[i] > '9' {
			return false
		}
	}
	return true
}

// fromDigits tells the amount that digits stand for, or false if it doesn't fit.
func fromDigits(s string) (amount, bool) {
	d, ok := amount{}, true
	for len(s) > 0 {
		take := min(len(s), groupDigits)
		group, top := uint32(0), uint32(1)
		for i := range take {
			group = group*10 + uint32(s[i]-'0')
			top *= 10
		}
		if d, ok = timesPlus(d, top, group); !ok {
			return amount{}, false
		}
		s = s[take:]
	}
	return d, true
}
