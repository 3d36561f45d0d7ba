package lex

import "strings"

const hexDigits = "0123456789abcdef"

// Quoted returns the quote whose value is s.
func Quoted(s string) string {
	q := make([]byte, 0, len(s)+2)
	q = append(q, '"')
	for i := range len(s) {
		switch b := s[i]; {
		case b == '"', b == '\\':
			q = append(q, '\\', b)
		case b == '\n':
			q = append(q, '\\', 'n')
		case !printable(b):
			q = append(q, '\\', 'x', hexDigits[b>>4], hexDigits[b&15])
		default:
			q = append(q, b)
		}
	}
	return string(append(q, '"'))
}

// unquote returns the value of the quote with which s begins, and the quote's length, which is 0 if it is wrong.
func unquote(s string) (string, int) {
	var value []byte
	at := 1
	for at < len(s) && s[at] != '"' {
		b, n := char(s[at:])
		if n == 0 {
			return "", 0
		}
		value = append(value, b)
		at += n
	}
	if at >= len(s) {
		return "", 0
	}
	return string(value), at + 1
}

// char returns the byte for which the beginning of s stands within a quote, and the length of that beginning, which is 0 if it stands for none.
func char(s string) (byte, int) {
	if s[0] != '\\' {
		if printable(s[0]) {
			return s[0], 1
		}
		return 0, 0
	}
	if len(s) < 2 {
		return 0, 0
	}
	switch s[1] {
	case '"', '\\':
		return s[1], 2
	case 'n':
		return '\n', 2
	case 'x':
		return hexByte(s)
	}
	return 0, 0
}

// hexByte is char for a beginning of \x and two digits.
func hexByte(s string) (byte, int) {
	if len(s) < 4 {
		return 0, 0
	}
	high, low := strings.IndexByte(hexDigits, s[2]), strings.IndexByte(hexDigits, s[3])
	if high < 0 || low < 0 {
		return 0, 0
	}
	return byte(high<<4 | low), 4
}
