// Package names has the rules for names and operations on lists of strings: see ../shared/doc/01-names.md.
package names

import (
	"slices"
	"strconv"

	"repartee/api"
)

// Keyword reports whether s is a keyword of the language.
func Keyword(s string) bool {
	switch s {
	case "and", "as", "at", "bool", "call", "chan", "drop", "else", "empty", "end",
		"fail", "false", "from", "hear", "if", "int", "join", "len", "let", "list",
		"local", "lost", "mod", "not", "open", "or", "print", "proc", "protocol", "push",
		"roles", "say", "spawn", "stop", "text", "to", "true", "unit", "with":
		return true
	}
	return false
}

// May reports whether s is a name.
func May(s string) bool {
	if len(s) < 1 || len(s) > api.MaxName || !letter(s[0]) {
		return false
	}
	for i := range len(s) {
		if !letter(s[i]) && !digit(s[i]) {
			return false
		}
	}
	return !Keyword(s)
}

func letter(b byte) bool { return 'a' <= b && b <= 'z' }

func digit(b byte) bool { return '0' <= b && b <= '9' }

// Has reports whether s is in l.
func Has(l []string, s string) bool { return slices.Contains(l, s) }

// Place returns the least index of s in l, or -1 if s is not in l.
func Place(l []string, s string) int { return slices.Index(l, s) }

// Once reports whether the strings of l are pairwise distinct.
func Once(l []string) bool { return len(set(l)) == len(l) }

// Put returns the strings of l and s in ascending order, without duplicates.
func Put(l []string, s string) []string {
	// A slice of its own, for append could write into the memory beyond l.
	all := make([]string, 0, len(l)+1)
	all = append(append(all, l...), s)
	slices.Sort(all)
	return slices.Compact(all)
}

// Fresh returns s if it is not in l, and otherwise s with the first number from 2 on that makes a string which is not in l.
func Fresh(l []string, s string) string {
	if !Has(l, s) {
		return s
	}
	// A set, for l may hold the strings of many numbers in a row.
	taken := set(l)
	for k := 2; ; k++ {
		f := numbered(s, k)
		if !taken[f] {
			return f
		}
	}
}

// numbered returns s, cut so that a name remains a name, followed by the digits of k.
func numbered(s string, k int) string {
	digits := strconv.Itoa(k)
	// No list within the limits holds the strings of all ten-digit numbers, so there are fewer digits than MaxName.
	room := api.MaxName - len(digits)
	return s[:min(len(s), room)] + digits
}

func set(l []string) map[string]bool {
	m := make(map[string]bool, len(l))
	for _, s := range l {
		m[s] = true
	}
	return m
}
