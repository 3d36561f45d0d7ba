package lex_test

import (
	"fmt"
	"math/big"
	"math/rand"
	"regexp"
	"slices"
	"strings"
	"testing"

	"repartee/api"
	"repartee/lex"
)

// The chapter's lists, written apart from the package.
var (
	keywords = strings.Split("and, as, at, bool, call, chan, drop, else, empty, end, fail, false, from, hear, if, int, join, len, let, list, local, lost, mod, not, open, or, print, proc, protocol, push, roles, say, spawn, stop, text, to, true, unit, with", ", ")
	signs    = strings.Fields("( ) { } , ; : . = < + - * / == ->")

	whiteSpace = regexp.MustCompile(`\A(?:[ \t\n]|#[^\n]*)*`)
	wordShape  = regexp.MustCompile(`\A[a-z][a-z0-9]*`)
	digitShape = regexp.MustCompile(`\A[0-9]+`)
	minusShape = regexp.MustCompile(`\A-[0-9]+`)
	signShape  = regexp.MustCompile(`\A(?:==|->|[(){},;:.=<+\-*/])`)
	quoteShape = regexp.MustCompile(`\A"(?:[ !#-\[\]-~]|\\["\\n]|\\x[0-9a-f][0-9a-f])*"`)
	charShape  = regexp.MustCompile(`\\x..|\\.|.`)
)

func word(at int, s string) api.Token   { return api.Token{Kind: api.Word, Text: s, At: at} }
func number(at int, s string) api.Token { return api.Token{Kind: api.Number, Text: s, At: at} }
func quote(at int, s string) api.Token  { return api.Token{Kind: api.Quote, Text: s, At: at} }
func sign(at int, s string) api.Token   { return api.Token{Kind: api.Sign, Text: s, At: at} }

// one returns the string of the one byte b.
func one(b int) string { return string([]byte{byte(b)}) }

// subtracts reports whether a - behind the last token of l begins no number.
func subtracts(l []api.Token) bool {
	if len(l) == 0 {
		return false
	}
	switch t := l[len(l)-1]; t.Kind {
	case api.Word:
		return !slices.Contains(keywords, t.Text)
	case api.Sign:
		return t.Text == ")"
	}
	return true
}

// isNumber reports whether the digits s, with a - ahead or not, are a number of the language.
func isNumber(s string) bool {
	n, ok := new(big.Int).SetString(s, 10)
	return ok && n.IsInt64() && n.String() == s
}

// value returns the value of a quote that has quoteShape.
func value(q string) string {
	return charShape.ReplaceAllStringFunc(q[1:len(q)-1], func(c string) string {
		switch {
		case strings.HasPrefix(c, `\x`):
			var b int
			fmt.Sscanf(c[2:], "%x", &b)
			return one(b)
		case c == `\n`:
			return "\n"
		}
		return c[len(c)-1:]
	})
}

// simple is Tokens written by regular expressions.
func simple(text string) (l []api.Token, at int, e api.Errno) {
	if len(text) > api.MaxSource {
		return nil, 0, api.ErrLexLong
	}
	for at = len(whiteSpace.FindString(text)); at < len(text); {
		s := text[at:]
		w, d, m := wordShape.FindString(s), digitShape.FindString(s), minusShape.FindString(s)
		if m != "" && !subtracts(l) {
			d = m
		}
		q, n := quoteShape.FindString(s), 0
		switch {
		case w != "":
			l, n = append(l, word(at, w)), len(w)
		case d != "" && !isNumber(d):
			return nil, at, api.ErrLexNumber
		case d != "":
			l, n = append(l, number(at, d)), len(d)
		case q != "":
			l, n = append(l, quote(at, value(q))), len(q)
		case s[0] == '"':
			return nil, at, api.ErrLexQuote
		default:
			g := signShape.FindString(s)
			if g == "" {
				return nil, at, api.ErrLexSign
			}
			l, n = append(l, sign(at, g)), len(g)
		}
		at += n
		at += len(whiteSpace.FindString(text[at:]))
	}
	return l, 0, api.OK
}

// check holds Tokens of text against simple.
func check(t *testing.T, text string) {
	t.Helper()
	l, at, e := lex.Tokens(text)
	wantL, wantAt, wantE := simple(text)
	if !slices.Equal(l, wantL) || at != wantAt || e != wantE {
		t.Fatalf("P2.1: Tokens(%q) = %#v, %d, %d, want %#v, %d, %d", text, l, at, e, wantL, wantAt, wantE)
	}
}

// wantTokens holds Tokens of text against tokens that are written out.
func wantTokens(t *testing.T, text string, want ...api.Token) {
	t.Helper()
	l, at, e := lex.Tokens(text)
	if !slices.Equal(l, want) || at != 0 || e != api.OK {
		t.Fatalf("P2.1: Tokens(%q) = %#v, %d, %d, want %#v", text, l, at, e, want)
	}
	check(t, text)
}

// wantError holds Tokens of text against an error that is written out.
func wantError(t *testing.T, text string, at int, e api.Errno) {
	t.Helper()
	gotL, gotAt, gotE := lex.Tokens(text)
	if len(gotL) != 0 || gotAt != at || gotE != e {
		t.Fatalf("P2.1: Tokens(%.40q) = %#v, %d, %d, want error %d at %d", text, gotL, gotAt, gotE, e, at)
	}
}

func TestTokens(t *testing.T) {
	wantTokens(t, "")
	wantTokens(t, "x-1", word(0, "x"), sign(1, "-"), number(2, "1"))
	wantTokens(t, "= -1", sign(0, "="), number(2, "-1"))
	wantTokens(t, "proc main() { stop }", word(0, "proc"), word(5, "main"), sign(9, "("), sign(10, ")"), sign(12, "{"), word(14, "stop"), sign(19, "}"))
	wantTokens(t, "0: a -> b {\n\tgo(int) 1 }", number(0, "0"), sign(1, ":"), word(3, "a"), sign(5, "->"), word(8, "b"), sign(10, "{"),
		word(13, "go"), sign(15, "("), word(16, "int"), sign(19, ")"), number(21, "1"), sign(23, "}"))
	wantTokens(t, "let s=join(\"a b\",\"\");", word(0, "let"), word(4, "s"), sign(5, "="), word(6, "join"), sign(10, "("),
		quote(11, "a b"), sign(16, ","), quote(17, ""), sign(19, ")"), sign(20, ";"))
}

func TestWordsAreAsLongAsTheyCanBe(t *testing.T) {
	wantTokens(t, "a1b2c", word(0, "a1b2c"))
	wantTokens(t, "az09", word(0, "az09"))
	wantTokens(t, "3c", number(0, "3"), word(1, "c"))
	wantTokens(t, "0x10", number(0, "0"), word(1, "x10"))
	wantTokens(t, "1a2 2", number(0, "1"), word(1, "a2"), number(4, "2"))
	wantTokens(t, "end2", word(0, "end2"))
	wantTokens(t, "a\"b\"c", word(0, "a"), quote(1, "b"), word(4, "c"))
	long := strings.Repeat("word5", 1000)
	wantTokens(t, long, word(0, long))
}

func TestWhiteSpaceAndCommentsAtBothEnds(t *testing.T) {
	for _, c := range []struct {
		text string
		at   int
	}{
		{"x", 0}, {" x", 1}, {"x ", 0}, {"\tx\t", 1}, {"\nx\n", 1}, {" \t\n x \t\n ", 4},
		{"#\nx", 2}, {"x#", 0}, {"x #", 0}, {"x#\n", 0}, {"x # y", 0}, {"x#y\n ", 0}, {"# a # b \" \\ A \x00\xff\r\nx# z \" \r", 18},
		{"#1\n#2\n\n #3\n  x#4\n#5\n#6", 13},
	} {
		wantTokens(t, c.text, word(c.at, "x"))
	}
	for _, text := range []string{" ", "\t", "\n", "\n\n \t", "#", "##", "#x", "#\n", "# \" \x00 A\n", "#x\n#y", " #x\n ", "#\r", "#é\n\n"} {
		wantTokens(t, text)
	}
	wantTokens(t, "x#y\nz", word(0, "x"), word(4, "z"))
	wantTokens(t, "\"#\"#\"\n#\"\n1", quote(0, "#"), number(9, "1"))
	wantTokens(t, "-#\n1", sign(0, "-"), number(3, "1"))
	wantTokens(t, "a b\tc\nd", word(0, "a"), word(2, "b"), word(4, "c"), word(6, "d"))
}

func TestMinusBehindEachKindOfToken(t *testing.T) {
	between := []string{"", " ", "\n", "\t \t", "# -\n", " #\n#\n "}
	for _, b := range between {
		n := len(b)
		wantTokens(t, b+"-1", number(n, "-1"))
		for _, k := range keywords {
			wantTokens(t, k+b+"-1", word(0, k), number(len(k)+n, "-1"))
			for _, w := range []string{k + "2", "x" + k} {
				if !slices.Contains(keywords, w) {
					wantTokens(t, w+b+"-1", word(0, w), sign(len(w)+n, "-"), number(len(w)+n+1, "1"))
				}
			}
		}
		for _, s := range signs {
			if s == ")" {
				wantTokens(t, s+b+"-1", sign(0, s), sign(1+n, "-"), number(2+n, "1"))
			} else {
				wantTokens(t, s+b+"-1", sign(0, s), number(len(s)+n, "-1"))
			}
		}
		for _, q := range []string{"", "(", "end", "-"} {
			wantTokens(t, `"`+q+`"`+b+"-1", quote(0, q), sign(len(q)+2+n, "-"), number(len(q)+3+n, "1"))
		}
		wantTokens(t, "7"+b+"-1", number(0, "7"), sign(1+n, "-"), number(2+n, "1"))
		wantTokens(t, "-7"+b+"-1", number(0, "-7"), sign(2+n, "-"), number(3+n, "1"))
		wantTokens(t, "x"+b+"-1", word(0, "x"), sign(1+n, "-"), number(2+n, "1"))
	}
	wantTokens(t, "- 1", sign(0, "-"), number(2, "1"))
	wantTokens(t, "--1", sign(0, "-"), number(1, "-1"))
	wantTokens(t, "---1", sign(0, "-"), sign(1, "-"), number(2, "-1"))
	wantTokens(t, "x--1", word(0, "x"), sign(1, "-"), number(2, "-1"))
	wantTokens(t, "1-1-1", number(0, "1"), sign(1, "-"), number(2, "1"), sign(3, "-"), number(4, "1"))
	wantTokens(t, "-x", sign(0, "-"), word(1, "x"))
	wantTokens(t, "-", sign(0, "-"))
	wantTokens(t, "x-0", word(0, "x"), sign(1, "-"), number(2, "0"))
	wantTokens(t, "->1", sign(0, "->"), number(2, "1"))
}

func TestLongestSign(t *testing.T) {
	for _, s := range signs {
		wantTokens(t, s, sign(0, s))
	}
	wantTokens(t, "==", sign(0, "=="))
	wantTokens(t, "= =", sign(0, "="), sign(2, "="))
	wantTokens(t, "===", sign(0, "=="), sign(2, "="))
	wantTokens(t, "====", sign(0, "=="), sign(2, "=="))
	wantTokens(t, "->", sign(0, "->"))
	wantTokens(t, "-->", sign(0, "-"), sign(1, "->"))
	wantTokens(t, "=->", sign(0, "="), sign(1, "->"))
	wantTokens(t, "==->", sign(0, "=="), sign(2, "->"))
	wantTokens(t, "<=", sign(0, "<"), sign(1, "="))
	wantTokens(t, "<-", sign(0, "<"), sign(1, "-"))
	wantTokens(t, "x->y", word(0, "x"), sign(1, "->"), word(3, "y"))
	wantError(t, "- >", 2, api.ErrLexSign)
	wantError(t, "=>", 1, api.ErrLexSign)
	wantError(t, "->>", 2, api.ErrLexSign)
	for _, a := range signs {
		for _, b := range signs {
			for _, c := range slices.Concat(signs, []string{">", "1", "x"}) {
				check(t, a+b+c)
			}
		}
	}
}

func TestBoundsOfNumbers(t *testing.T) {
	for _, s := range []string{"0", "1", "9", "10", "100", "999", "1000000000000000000", "9223372036854775806", "9223372036854775807",
		"-1", "-9", "-10", "-9223372036854775807", "-9223372036854775808"} {
		wantTokens(t, s, number(0, s))
		wantTokens(t, "= "+s+"x", sign(0, "="), number(2, s), word(2+len(s), "x"))
	}
	for _, s := range []string{"00", "01", "007", "000", "-0", "-00", "-01", "9223372036854775808", "9223372036854775809", "9223372036854775810",
		"10000000000000000000", "18446744073709551615", "18446744073709551616", "18446744073709551617", "99999999999999999999",
		"-9223372036854775809", "-9223372036854775810", "-18446744073709551615", "-18446744073709551617",
		"09223372036854775807", "-09223372036854775808", strings.Repeat("9", 5000), "-" + strings.Repeat("1", 5000), strings.Repeat("0", 5000)} {
		wantError(t, s, 0, api.ErrLexNumber)
		wantError(t, "x = "+s+" )", 4, api.ErrLexNumber)
		check(t, s)
	}
	wantTokens(t, "x-9223372036854775807", word(0, "x"), sign(1, "-"), number(2, "9223372036854775807"))
	wantError(t, "x-9223372036854775808", 2, api.ErrLexNumber)
	wantError(t, "x-01", 2, api.ErrLexNumber)
	wantError(t, "0-00", 2, api.ErrLexNumber)
	wantError(t, "01x", 0, api.ErrLexNumber)
	for i := range 1200 {
		s := fmt.Sprint(i)
		wantTokens(t, "("+s, sign(0, "("), number(1, s))
		check(t, "-"+s)
		check(t, "0"+s)
	}
}

func TestEveryEscapeOfAQuote(t *testing.T) {
	wantTokens(t, `""`, quote(0, ""))
	wantTokens(t, `"\""`, quote(0, `"`))
	wantTokens(t, `"\\"`, quote(0, `\`))
	wantTokens(t, `"\n"`, quote(0, "\n"))
	wantTokens(t, `"\\n"`, quote(0, `\n`))
	wantTokens(t, `"\\\""x`, quote(0, `\"`), word(6, "x"))
	wantTokens(t, `"\x00\x7f\xff\x0a\x22\x5c"`, quote(0, "\x00\x7f\xff\n\"\\"))
	wantTokens(t, `"\x411"`, quote(0, "A1"))
	wantTokens(t, `"n x41 # -1 end"`, quote(0, "n x41 # -1 end"))
	wantTokens(t, `"a""b"`, quote(0, "a"), quote(3, "b"))
	wantTokens(t, ` "\\" "\""`, quote(1, `\`), quote(6, `"`))
	long := strings.Repeat("a", 1000)
	wantTokens(t, `"`+long+`"`, quote(0, long))
	for b := range 256 {
		wantTokens(t, fmt.Sprintf(`"\x%02x"`, b), quote(0, one(b)))
		wantTokens(t, fmt.Sprintf(`"p\x%02xq"z`, b), quote(0, "p"+one(b)+"q"), word(8, "z"))
	}
}

func TestEachByteWithinAQuote(t *testing.T) {
	for b := range 256 {
		c := one(b)
		switch {
		case c == `"`:
			wantError(t, `x "`+c+`"`, 4, api.ErrLexQuote)
		case c == `\`, b < 32, b > 126:
			wantError(t, `x "`+c+`"`, 2, api.ErrLexQuote)
			wantError(t, `x "ab`+c+`cd" A`, 2, api.ErrLexQuote)
		default:
			wantTokens(t, `x "`+c+`"`, word(0, "x"), quote(2, c))
		}
		switch c {
		case `"`, `\`:
			wantTokens(t, `"\`+c+`"`, quote(0, c))
		case "n":
			wantTokens(t, `"\n"`, quote(0, "\n"))
		default:
			wantError(t, `"\`+c+`"`, 0, api.ErrLexQuote)
			wantError(t, `("a\`+c+`"`, 1, api.ErrLexQuote)
		}
	}
}

func TestEachPairOfBytesBehindABackslashAndX(t *testing.T) {
	const digits = "0123456789abcdef"
	for a := range 256 {
		for b := range 256 {
			high, low := strings.Index(digits, one(a)), strings.Index(digits, one(b))
			text := `("\x` + one(a) + one(b) + `"`
			if high >= 0 && low >= 0 {
				wantTokens(t, text, sign(0, "("), quote(1, one(16*high+low)))
			} else {
				wantError(t, text, 1, api.ErrLexQuote)
			}
		}
	}
}

func TestQuotesThatDoNotEnd(t *testing.T) {
	for _, q := range []string{`"`, `"a`, `"\"`, `"\\\"`, `"\`, `"\x`, `"\x4`, `"\x41`, `"\n`, `"\"a`, "\"a\n", `"a#b`, `"` + strings.Repeat("a", 9000)} {
		wantError(t, q, 0, api.ErrLexQuote)
		wantError(t, "x "+q, 2, api.ErrLexQuote)
		wantError(t, `"" `+q, 3, api.ErrLexQuote)
		wantError(t, "# \"\n"+q, 4, api.ErrLexQuote)
	}
	wantError(t, `"\x4"`, 0, api.ErrLexQuote)
	wantError(t, `"\x"41"`, 0, api.ErrLexQuote)
	wantError(t, "\"a\n\"", 0, api.ErrLexQuote)
	wantError(t, "\"é\"", 0, api.ErrLexQuote)
}

func TestBytesThatBeginNoToken(t *testing.T) {
	for b := range 256 {
		c := one(b)
		check(t, c)
		check(t, "x "+c)
		check(t, "x"+c+"y")
		if strings.Contains("(){},;:.=<+-*/\"# \t\n", c) || 'a' <= b && b <= 'z' || '0' <= b && b <= '9' {
			continue
		}
		wantError(t, c, 0, api.ErrLexSign)
		wantError(t, "x "+c+" y", 2, api.ErrLexSign)
		wantError(t, "\"a\"#\n-1"+c, 7, api.ErrLexSign)
	}
	wantError(t, "x é", 2, api.ErrLexSign)
	wantError(t, "x_y", 1, api.ErrLexSign)
	wantError(t, "xY", 1, api.ErrLexSign)
	wantError(t, "x\r\n", 1, api.ErrLexSign)
}

func TestTheFirstWrongTokenIsTold(t *testing.T) {
	wrong := map[string]api.Errno{"A": api.ErrLexSign, "01": api.ErrLexNumber, `"\a"`: api.ErrLexQuote, "-0": api.ErrLexNumber, ">": api.ErrLexSign}
	for a, e := range wrong {
		for b := range wrong {
			wantError(t, "( "+a+" "+b, 2, e)
			wantError(t, "x y ( "+a+b+" z", 6, e)
		}
	}
}

func TestTheLengthOfAText(t *testing.T) {
	full := strings.Repeat("x ", api.MaxSource/2)
	if l, at, e := lex.Tokens(full); len(l) != api.MaxSource/2 || at != 0 || e != api.OK || l[len(l)-1] != word(api.MaxSource-2, "x") {
		t.Error("P2.1: a text of MaxSource bytes:", len(l), at, e)
	}
	wantTokens(t, strings.Repeat("a", api.MaxSource), word(0, strings.Repeat("a", api.MaxSource)))
	wantTokens(t, "1"+strings.Repeat("\n", api.MaxSource-2)+"1", number(0, "1"), number(api.MaxSource-1, "1"))
	wantTokens(t, strings.Repeat("#", api.MaxSource))
	wantTokens(t, `"`+strings.Repeat("~", api.MaxSource-2)+`"`, quote(0, strings.Repeat("~", api.MaxSource-2)))
	wantError(t, strings.Repeat(" ", api.MaxSource-1)+"A", api.MaxSource-1, api.ErrLexSign)
	for _, first := range []string{" ", "x", "A", "01", `"`, "#", "\x00"} {
		wantError(t, first+strings.Repeat(" ", api.MaxSource+1-len(first)), 0, api.ErrLexLong)
	}
	wantError(t, full+"A", 0, api.ErrLexLong)
	wantError(t, strings.Repeat("9", 1<<20), 0, api.ErrLexLong)
}

func TestShortTexts(t *testing.T) {
	for a := range 256 {
		for b := range 256 {
			check(t, one(a)+one(b))
		}
	}
	const some = "ax09-=>\"\\n# \n()A\xff"
	var texts func(start string, n int)
	texts = func(start string, n int) {
		check(t, start)
		for i := 0; n > 0 && i < len(some); i++ {
			texts(start+some[i:i+1], n-1)
		}
	}
	texts("", 4)
}

// pieces are parts of texts, of which some are whole tokens and some are wrong.
var pieces = slices.Concat(keywords, signs, []string{"x", "y2", "abc", "endx", "0", "1", "42", "-1", "-7", "9223372036854775807", "-9223372036854775808",
	`"a"`, `""`, `"\n\x00\"\\"`, " ", " ", " ", " ", "\n", "\t", "#c\n", "# \"\n", "-", "-", ")", "x", "3"})

var wrongPieces = []string{"A", ">", `"`, `\`, "00", "-0", "9223372036854775808", "\xff", "#"}

func randomText(r *rand.Rand) string {
	var b strings.Builder
	for range r.Intn(30) {
		if r.Intn(60) == 0 {
			b.WriteString(wrongPieces[r.Intn(len(wrongPieces))])
		}
		b.WriteString(pieces[r.Intn(len(pieces))])
		if r.Intn(2) == 0 {
			b.WriteString(" ")
		}
	}
	return b.String()
}

func TestRandomTexts(t *testing.T) {
	r := rand.New(rand.NewSource(2))
	right := 0
	for range 20000 {
		text := randomText(r)
		check(t, text)
		l, _, e := lex.Tokens(text)
		if e != api.OK {
			continue
		}
		right++
		checkRoundTrip(t, l)
	}
	if right < 5000 {
		t.Error("too few texts without an error:", right)
	}
}

func TestTokensGiveNewMemory(t *testing.T) {
	a, _, _ := lex.Tokens("x 1 (")
	b, _, _ := lex.Tokens("x 1 (")
	clear(a[:cap(a)])
	if !slices.Equal(b, []api.Token{word(0, "x"), number(2, "1"), sign(4, "(")}) {
		t.Error("P2.1: two results share their memory:", b)
	}
}

// simpleQuoted is Quoted written as the chapter says it, byte for byte.
func simpleQuoted(s string) string {
	q := `"`
	for i := range len(s) {
		c := s[i : i+1]
		switch {
		case c == `"`, c == `\`:
			c = `\` + c
		case c == "\n":
			c = `\n`
		case s[i] < 32, s[i] > 126:
			c = fmt.Sprintf(`\x%02x`, s[i])
		}
		q += c
	}
	return q + `"`
}

func TestQuoted(t *testing.T) {
	for _, c := range []struct{ s, want string }{
		{"", `""`},
		{"a\"\n", `"a\"\n"`},
		{`\`, `"\\"`},
		{`\n`, `"\\n"`},
		{`""`, `"\"\""`},
		{" ~!#[]'", `" ~!#[]'"`},
		{"\x00\x01\t\r\x0b\x1f", `"\x00\x01\x09\x0d\x0b\x1f"`},
		{"\x7f\x80\xab\xff", `"\x7f\x80\xab\xff"`},
		{"é", `"\xc3\xa9"`},
		{"\n\n", `"\n\n"`},
	} {
		if got := lex.Quoted(c.s); got != c.want {
			t.Fatalf("P2.2: Quoted(%q) = %s, want %s", c.s, got, c.want)
		}
	}
	if n := len(lex.Quoted("a\"\n")); n != 7 {
		t.Error("P2.2: the example has seven bytes, here are", n)
	}
}

func TestQuotedOfEachByteAndEachPair(t *testing.T) {
	try := func(s string) {
		q := lex.Quoted(s)
		if want := simpleQuoted(s); q != want {
			t.Fatalf("P2.2: Quoted(%q) = %s, want %s", s, q, want)
		}
		if l, _, e := lex.Tokens(q); e != api.OK || !slices.Equal(l, []api.Token{quote(0, s)}) {
			t.Fatalf("P2.2: the value of Quoted(%q) is %#v, %d", s, l, e)
		}
	}
	for a := range 256 {
		try(one(a))
		for b := range 256 {
			try(one(a) + one(b))
		}
	}
}

func TestQuotedOfALongText(t *testing.T) {
	s := strings.Repeat("\"\\\n\x00~", 100000)
	if lex.Quoted(s) != `"`+strings.Repeat(`\"\\\n\x00~`, 100000)+`"` {
		t.Error("P2.2: Quoted of a long text is wrong")
	}
}

func TestWrite(t *testing.T) {
	for _, c := range []struct {
		l    []api.Token
		want string
	}{
		{nil, ""},
		{[]api.Token{}, ""},
		{[]api.Token{word(0, "x")}, "x"},
		{[]api.Token{word(0, "x"), sign(0, "-"), number(0, "1")}, "x - 1"},
		{[]api.Token{sign(0, "="), number(0, "-1")}, "= -1"},
		{[]api.Token{number(0, "-1"), sign(0, "-"), number(0, "-2")}, "-1 - -2"},
		{[]api.Token{sign(0, "-"), number(0, "1")}, "- 1"},
		{[]api.Token{sign(0, "-"), sign(0, "->"), sign(0, "="), sign(0, "=="), sign(0, "=")}, "- -> = == ="},
		{[]api.Token{quote(0, ""), quote(0, "a\"\n"), quote(0, "\x00\xff"), quote(0, "01")}, `"" "a\"\n" "\x00\xff" "01"`},
		{[]api.Token{word(0, "proc"), word(0, "main"), sign(0, "("), sign(0, ")"), sign(0, "{"), word(0, "stop"), sign(0, "}")}, "proc main ( ) { stop }"},
		{[]api.Token{word(0, strings.Repeat("a", 30))}, strings.Repeat("a", 30)},
		{[]api.Token{number(0, "9223372036854775807"), word(0, "end"), number(0, "-9223372036854775808")}, "9223372036854775807 end -9223372036854775808"},
		{[]api.Token{number(0, "0"), number(0, "0"), word(0, "x"), number(0, "7"), quote(0, ""), number(0, "7"), sign(0, ")"), number(0, "7")}, `0 0 x 7 "" 7 ) 7`},
	} {
		if s, e := lex.Write(c.l); s != c.want || e != api.OK {
			t.Fatalf("P2.3: Write(%#v) = %q, %d, want %q", c.l, s, e, c.want)
		}
		checkRoundTrip(t, c.l)
	}
}

func TestWriteIgnoresAt(t *testing.T) {
	l := []api.Token{word(-5, "x"), sign(1<<62, "="), number(0, "-1"), quote(-1<<63, "a")}
	if s, e := lex.Write(l); s != `x = -1 "a"` || e != api.OK {
		t.Fatalf("P2.3: Write(%#v) = %q, %d", l, s, e)
	}
}

// refused checks that Write refuses l, alone and with right tokens around it.
func refused(t *testing.T, l ...api.Token) {
	t.Helper()
	for _, all := range [][]api.Token{l, append([]api.Token{sign(0, "(")}, l...), append(slices.Clone(l), sign(0, ")"))} {
		if s, e := lex.Write(all); s != "" || e != api.ErrLexForm {
			t.Fatalf("P2.3: Write(%#v) = %q, %d, want ErrLexForm", all, s, e)
		}
	}
}

func TestWriteOfWrongTokens(t *testing.T) {
	for _, k := range []int{-1, 4, 5, 1 << 40, -1 << 63} {
		for _, s := range []string{"", "x", "1", "(", `"a"`} {
			refused(t, api.Token{Kind: k, Text: s})
		}
	}
	for _, s := range []string{"", "A", "1", "1x", "x y", " x", "x ", "x\n", "x#", "x_", "é", "x\xff", "(", "-", `"x"`, "xY", "-1"} {
		refused(t, word(0, s))
	}
	for _, s := range []string{"", "-", "+1", " 1", "1 ", "1\n", "1#", "--1", "1-1", "- 1", "x", "1x", "0x1", "1_0", "1.0", "1e3", "٣", "(", `"1"`,
		"00", "01", "-0", "-00", "-01", "9223372036854775808", "-9223372036854775809", strings.Repeat("9", 100)} {
		refused(t, number(0, s))
	}
	for _, s := range []string{"", " ", "x", "1", "-1", ">", "=>", "=<", "<=", "===", "==x", "->>", "-->", "()", " (", "( ", "#", "\"", `""`, "\\", "_", "\n", "é", "!"} {
		refused(t, sign(0, s))
	}
	refused(t, number(0, "1"), word(0, "x"), sign(0, "("), word(0, ""))
}

func TestWriteOfAMinusBehindEachKindOfToken(t *testing.T) {
	for _, s := range []string{"-1", "-10", "-9223372036854775808"} {
		for _, k := range keywords {
			if got, e := lex.Write([]api.Token{word(0, k), number(0, s)}); got != k+" "+s || e != api.OK {
				t.Fatalf("P2.3: Write of %s behind %s = %q, %d", s, k, got, e)
			}
		}
		for _, g := range signs {
			if got, e := lex.Write([]api.Token{sign(0, g), number(0, s)}); g != ")" && (got != g+" "+s || e != api.OK) {
				t.Fatalf("P2.3: Write of %s behind %s = %q, %d", s, g, got, e)
			}
		}
		refused(t, sign(0, ")"), number(0, s))
		refused(t, word(0, "x"), number(0, s))
		refused(t, word(0, "end2"), number(0, s))
		refused(t, number(0, "1"), number(0, s))
		refused(t, number(0, s), number(0, s))
		for _, q := range []string{"", "a", "end", "("} {
			refused(t, quote(0, q), number(0, s))
		}
	}
}

// right reports whether Write may write l, as the chapter says it.
func right(l []api.Token) bool {
	for i, t := range l {
		ok := false
		switch t.Kind {
		case api.Word:
			ok = t.Text != "" && wordShape.FindString(t.Text) == t.Text
		case api.Number:
			ok = (digitShape.FindString(t.Text) == t.Text || minusShape.FindString(t.Text) == t.Text) && isNumber(t.Text) &&
				(t.Text[0] != '-' || !subtracts(l[:i]))
		case api.Quote:
			ok = true
		case api.Sign:
			ok = slices.Contains(signs, t.Text)
		}
		if !ok {
			return false
		}
	}
	return true
}

// checkWrite holds Write of l against right, and checks the way back.
func checkWrite(t *testing.T, l []api.Token) {
	t.Helper()
	if right(l) {
		checkRoundTrip(t, l)
		return
	}
	if s, e := lex.Write(l); s != "" || e != api.ErrLexForm {
		t.Fatalf("P2.3: Write(%#v) = %q, %d, want ErrLexForm", l, s, e)
	}
}

// checkRoundTrip checks what Write returns of l, whose tokens are right, and that Tokens returns them again.
func checkRoundTrip(t *testing.T, l []api.Token) {
	t.Helper()
	var parts []string
	want := slices.Clone(l)
	at := 0
	for i := range l {
		p := l[i].Text
		if l[i].Kind == api.Quote {
			p = simpleQuoted(p)
		}
		want[i].At = at
		at += len(p) + 1
		parts = append(parts, p)
	}
	s, e := lex.Write(l)
	if s != strings.Join(parts, " ") || e != api.OK {
		t.Fatalf("P2.3: Write(%#v) = %q, %d", l, s, e)
	}
	if back, _, e := lex.Tokens(s); e != api.OK || !slices.Equal(back, want) {
		t.Fatalf("P2.4: Tokens(%q) = %#v, %d, want %#v", s, back, e, want)
	}
}

func TestWriteOfShortTextsOfEachKind(t *testing.T) {
	const some = "az09-=>() \"#\nA\xff"
	var texts func(start string, n int)
	texts = func(start string, n int) {
		for kind := -1; kind <= 4; kind++ {
			checkWrite(t, []api.Token{{Kind: kind, Text: start}})
			checkWrite(t, []api.Token{word(0, "x"), {Kind: kind, Text: start}})
		}
		for i := 0; n > 0 && i < len(some); i++ {
			texts(start+some[i:i+1], n-1)
		}
	}
	texts("", 3)
	for a := range 256 {
		for kind := range 4 {
			checkWrite(t, []api.Token{{Kind: kind, Text: one(a)}})
			checkWrite(t, []api.Token{{Kind: kind, Text: "1" + one(a)}})
			checkWrite(t, []api.Token{{Kind: kind, Text: "x" + one(a)}})
		}
	}
}

func TestRandomTokens(t *testing.T) {
	r := rand.New(rand.NewSource(3))
	texts := [][]string{slices.Concat(keywords, []string{"x", "y2", "abc"}), {"0", "1", "-1", "-2", "42", "9223372036854775807"}, {"", "a", "\"\n\\", "-1", "\x00\xff"}, signs}
	good := 0
	for range 20000 {
		l := make([]api.Token, r.Intn(8))
		for i := range l {
			k := r.Intn(4)
			l[i] = api.Token{Kind: k, Text: texts[k][r.Intn(len(texts[k]))]}
		}
		if right(l) {
			good++
		}
		checkWrite(t, l)
	}
	if good < 5000 || good > 19000 {
		t.Error("too few lists of one sort:", good)
	}
}

func TestWhatIsWrittenCanBeTooLong(t *testing.T) {
	l := slices.Repeat([]api.Token{word(0, "x")}, api.MaxSource/2)
	checkRoundTrip(t, l)
	l = append(l, word(0, "x"))
	s, e := lex.Write(l)
	if e != api.OK || len(s) != api.MaxSource+1 {
		t.Error("P2.3: Write of many tokens:", len(s), e)
	}
	wantError(t, s, 0, api.ErrLexLong)
	checkRoundTrip(t, []api.Token{word(0, strings.Repeat("x", api.MaxSource))})
	checkRoundTrip(t, []api.Token{quote(0, strings.Repeat("\xff", (api.MaxSource-2)/4))})
}

func TestWriteLeavesItsArgumentAlone(t *testing.T) {
	all := []api.Token{quote(1, "\n"), sign(2, "="), number(3, "-1"), word(4, "A"), word(5, "x")}
	want := slices.Clone(all)
	if s, e := lex.Write(all[:3]); s != `"\n" = -1` || e != api.OK {
		t.Fatalf("P2.3: Write reads beyond its list: %q, %d", s, e)
	}
	if s, e := lex.Write(all); s != "" || e != api.ErrLexForm {
		t.Fatalf("P2.3: Write of a wrong token = %q, %d", s, e)
	}
	if !slices.Equal(all, want) {
		t.Error("P2.3: Write changed its list:", all)
	}
}
