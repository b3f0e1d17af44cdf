package lex

import (
	"slices"
	"strings"
)

// mostDigits fit into an int of any machine.
const mostDigits = 9

// words tells those of one line; each is a copy, as an answer shares nothing with the text.
func words(row string) []string {
	var l []string
	row, _ = cut(row, '#')
	for row != "" {
		var word string
		word, row = cut(row, ' ', '\t', '\r')
		if word != "" {
			l = append(l, strings.Clone(word))
		}
	}
	return l
}

// cut parts s at the first of these bytes, which is in neither part; without any of them all is ahead. It asks bytes, not runes, as a text may be no UTF-8.
func cut(s string, at ...byte) (ahead, behind string) {
	for i := range len(s) {
		if slices.Contains(at, s[i]) {
			return s[:i], s[i+1:]
		}
	}
	return s, ""
}

// natural tells the number that digits write; false of more than nine, of none, and with a nought ahead.
func natural(digits string) (int, bool) {
	if digits == "" || len(digits) > mostDigits || len(digits) > 1 && digits[0] == '0' {
		return 0, false
	}
	n := 0
	for i := range len(digits) {
		if digits[i] < '0' || digits[i] > '9' {
			return 0, false
		}
		n = n*10 + int(digits[i]-'0')
	}
	return n, true
}
