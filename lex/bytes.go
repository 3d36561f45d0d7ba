package lex

func letter(b byte) bool { return 'a' <= b && b <= 'z' }

func digit(b byte) bool { return '0' <= b && b <= '9' }

func space(b byte) bool { return b == ' ' || b == '\t' || b == '\n' }

func printable(b byte) bool { return ' ' <= b && b <= '~' }

// either is the kind of the bytes that are of kind a or of kind b.
func either(a, b func(byte) bool) func(byte) bool {
	return func(c byte) bool { return a(c) || b(c) }
}

// except is the kind of all bytes but b.
func except(b byte) func(byte) bool {
	return func(c byte) bool { return c != b }
}

// follow returns the kind of the bytes that may follow b within a word, a number, a comment or blanks.
func follow(b byte) func(byte) bool {
	switch {
	case letter(b):
		return either(letter, digit)
	case digit(b), b == '-':
		return digit
	case b == '#':
		return except('\n')
	case space(b):
		return space
	}
	return func(byte) bool { return false }
}

// run returns the length of the longest run with which s, which is not empty, begins: its first byte and those that may follow it.
func run(s string) int {
	may := follow(s[0])
	n := 1
	for n < len(s) && may(s[n]) {
		n++
	}
	return n
}

// blank returns the length of the white space with which s begins, comments included.
func blank(s string) int {
	n := 0
	for n < len(s) && (space(s[n]) || s[n] == '#') {
		n += run(s[n:])
	}
	return n
}
