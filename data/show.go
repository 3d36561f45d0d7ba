package data

import (
	"strconv"
	"strings"

	"repartee/api"
	"repartee/lex"
)

// Show returns the text of v, or the empty string if v is invalid.
func Show(v api.Value) string {
	if !May(v) {
		return ""
	}
	switch v.Kind {
	case api.Int:
		return digits(v.N)
	case api.Bool:
		return strconv.FormatBool(v.N == 1)
	case api.Text:
		return lex.Quoted(v.S)
	case api.List:
		return showList(v.L)
	case api.Chan:
		return v.S + ":" + digits(v.N)
	}
	return "unit"
}

func digits(n int64) string { return strconv.FormatInt(n, 10) }

func showList(l []int64) string {
	parts := make([]string, len(l))
	for i, n := range l {
		parts[i] = digits(n)
	}
	return "[" + strings.Join(parts, " ") + "]"
}

// Read returns the value of a Kind other than Chan whose Show is s.
func Read(s string) (api.Value, api.Errno) {
	v := guess(s)
	if Show(v) != s {
		return api.Value{}, api.ErrDataForm
	}
	return v, api.OK
}

// guess returns the only value whose Show can be s. Whether it is, Show tells: nothing here refuses a text that is not quite right.
func guess(s string) api.Value {
	switch {
	case s == "unit":
		return api.Value{}
	case s == "false":
		return api.Value{Kind: api.Bool}
	case s == "true":
		return api.Value{Kind: api.Bool, N: 1}
	case strings.HasPrefix(s, `"`):
		return api.Value{Kind: api.Text, S: firstQuote(s)}
	case strings.HasPrefix(s, "["):
		return api.Value{Kind: api.List, L: numbers(strings.TrimSuffix(s[1:], "]"))}
	}
	return api.Value{Kind: api.Int, N: number(s)}
}

// firstQuote returns the value of the quote with which s begins, or the empty string if s is no list of tokens.
func firstQuote(s string) string {
	l, _, e := lex.Tokens(s)
	if e != api.OK {
		return ""
	}
	return l[0].Text
}

func numbers(s string) []int64 {
	if s == "" {
		return nil
	}
	// One part more than a list may have is enough to make the list invalid.
	var l []int64
	for _, part := range strings.SplitN(s, " ", api.MaxList+1) {
		l = append(l, number(part))
	}
	return l
}

// number returns the number that s is, or any number if s is none.
func number(s string) int64 {
	n, _ := strconv.ParseInt(s, 10, 64)
	return n
}
