package sketch

import "strings"

// Names returns texts that are names.
func Names() []string {
	return []string{"a", "z", "b", "x", "seller2", "z9", "a0b1", "abcdefghijkl", "a00000000000", "ends", "end2", "main"}
}

// NoNames returns texts that are none.
func NoNames() []string {
	return []string{
		"", "end", "to", "protocol", "roles", "A", "1", "2a", "aB", "a_b", "a b", " a", "a ", "a\n", "a\x00", "a.b", ".a", "a.", "é", "a\xff",
		"abcdefghijklm", "a000000000000", strings.Repeat("a", 1000),
	}
}
