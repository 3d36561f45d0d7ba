package data_test

import (
	"math"
	"math/big"
	"math/rand"
	"regexp"
	"strconv"
	"strings"
	"testing"

	"repartee/api"
	"repartee/data"
)

// shown has values of each Kind but Chan, with the shortest and the longest forms, and what Show returns of them.
var shown = []struct {
	v api.Value
	s string
}{
	{unit, "unit"}, {no, "false"}, {yes, "true"},
	{num(0), "0"}, {num(7), "7"}, {num(-1), "-1"}, {num(10), "10"}, {num(-100), "-100"},
	{num(math.MaxInt64), "9223372036854775807"}, {num(math.MinInt64), "-9223372036854775808"},
	{text(""), `""`}, {text("a"), `"a"`}, {text(" "), `" "`}, {text("\""), `"\""`}, {text("\\"), `"\\"`}, {text("\n"), `"\n"`}, {text("\\n"), `"\\n"`},
	{text("\x00\t\r\x1f\x7f\x80\xff"), `"\x00\x09\x0d\x1f\x7f\x80\xff"`}, {text("é"), `"\xc3\xa9"`}, {text("#~'"), `"#~'"`},
	{text("unit"), `"unit"`}, {text("true"), `"true"`}, {text("1"), `"1"`}, {text("[1 2]"), `"[1 2]"`}, {text("a:1"), `"a:1"`},
	{text(strings.Repeat("x", 24)), `"xxxxxxxxxxxxxxxxxxxxxxxx"`}, {text(strings.Repeat("\xff", 24)), `"` + strings.Repeat(`\xff`, 24) + `"`},
	{list(), "[]"}, {list(0), "[0]"}, {list(1, -2), "[1 -2]"}, {list(-1), "[-1]"}, {list(1, 2, 3), "[1 2 3]"}, {list(12), "[12]"},
	{list(math.MaxInt64, math.MinInt64), "[9223372036854775807 -9223372036854775808]"},
	{list(make([]int64, 16)...), "[0" + strings.Repeat(" 0", 15) + "]"}, {list(longest()...), "[-9223372036854775808" + strings.Repeat(" -9223372036854775808", 15) + "]"},
}

func longest() []int64 {
	l := make([]int64, 16)
	for i := range l {
		l[i] = math.MinInt64
	}
	return l
}

func wantValue(t *testing.T, s string, want api.Value) {
	t.Helper()
	if v, e := data.Read(s); e != api.OK || simpleCompare(v, want) != 0 {
		t.Fatalf("P3.3: Read(%q) = %#v, %d, want %#v", s, v, e, want)
	}
}

func wantError(t *testing.T, s string) {
	t.Helper()
	if v, e := data.Read(s); e != api.ErrDataForm || simpleCompare(v, api.Value{}) != 0 {
		t.Fatalf("P3.3: Read(%q) = %#v, %d, want ErrDataForm", s, v, e)
	}
}

func TestShowAndRead(t *testing.T) {
	for _, c := range shown {
		if got := data.Show(c.v); got != c.s {
			t.Errorf("P3.3: Show(%#v) = %q, want %q", c.v, got, c.s)
		}
		wantValue(t, c.s, c.v)
	}
}

func TestShowOfChannels(t *testing.T) {
	for s, v := range map[string]api.Value{
		"a:0": end("a", 0), "0.1/2:4": end("0.1/2", 4), "::1": end(":", 1), "\x00\n\":2": end("\x00\n\"", 2), " :3": end(" ", 3),
		strings.Repeat("x", 1000) + ":1": end(strings.Repeat("x", 1000), 1), "unit:0": end("unit", 0), "[1]:0": end("[1]", 0), "\"a\":0": end("\"a\"", 0),
	} {
		if got := data.Show(v); got != s {
			t.Errorf("P3.3: Show(%#v) = %q, want %q", v, got, s)
		}
		wantError(t, s)
	}
}

func TestShowOfInvalidValues(t *testing.T) {
	for _, v := range invalidValues {
		if got := data.Show(v); got != "" {
			t.Errorf("P3.3: Show(%#v) = %q, want the empty string", v, got)
		}
	}
}

func TestShowOfEachChoiceOfFields(t *testing.T) {
	for _, v := range grid() {
		s := data.Show(v)
		if (s != "") != valid(v) {
			t.Fatalf("P3.3: Show(%#v) = %q", v, s)
		}
		if s == "" || v.Kind == api.Chan {
			continue
		}
		wantValue(t, s, v)
	}
}

func TestReadOfTextsThatAreNoForm(t *testing.T) {
	for _, s := range []string{
		"", " ", "\n", "\t", "\x00", "x", "#", "-", "+", "\xff", "'a'",
		"Unit", "UNIT", "unit ", " unit", "unit\n", "uni", "units", "()", "none", "empty",
		"True", "FALSE", "true ", " true", "tru", "truee", "false\n", "t", "f", "TRUE", "yes",
		"+1", "+0", "01", "00", "-0", "-00", "-01", "--1", "- 1", " 1", "1 ", "1\n", "\t1", "1.0", "1e3", "1_0", "0x1", "0b1", "0o7", "1,", "٣", "1-", "1-1", "1 2",
		"9223372036854775808", "-9223372036854775809", "18446744073709551616", strings.Repeat("9", 100),
		`"`, `"a`, `a"`, `"a" `, ` "a"`, "\"a\"\n", `"a"b`, `"a""b"`, `"a" "b"`, `"a"#c`, `"a" # c`, `""""`, `"" ""`, `"a"1`, `'a'`, "`a`", "#\"a\"",
		`"\x41"`, `"\x0a"`, `"\x22"`, `"\x5c"`, `"\x7F"`, `"\xFF"`, `"\xf"`, `"\x"`, `"\a"`, `"\t"`, `"\'"`, `"\`, `"\"`, "\"\n\"", "\"\t\"", "\"é\"", "\"\x00\"", "\"\x7f\"", "\"\xff\"",
		`"` + strings.Repeat("x", 25) + `"`, `"` + strings.Repeat(`\xff`, 25) + `"`, `"` + strings.Repeat("x", 1<<20) + `"`,
		"[", "]", "[[]", "[]]", "[ ]", "[  ]", "[\t]", "[] ", " []", "[]\n", "][", "[[]]", "[,]", "{}", "()", "[-]", "[+]",
		"[1,2]", "[1, 2]", "[1  2]", "[1\t2]", "[1\n2]", "[ 1]", "[1 ]", "[1 2 ]", "[ 1 2]", "[1", "1]", "[1 2", "[1]2", "[1][2]", "[1] ", " [1]", "[1]\n", "[1]]", "[[1]", "(1 2)", "[1 2}",
		"[01]", "[+1]", "[-0]", "[00]", "[1 +2]", "[1 02]", "[1 -0]", "[x]", "[1 x]", "[x 1]", "[true]", "[\"a\"]", "[1.0]", "[--1]", "[1 - 2]", "[0x1]",
		"[9223372036854775808]", "[-9223372036854775809]", "[1 9223372036854775808]",
		"[" + strings.Repeat("0 ", 16) + "0]", "[" + strings.Repeat("0 ", 15) + "]", "[" + strings.Repeat("0 ", 16) + "]", "[" + strings.Repeat("0 ", 1<<20) + "0]",
		"0/1:0", "a:1", "x:5", "x:-1", ":0", "a:", "a:01",
	} {
		wantError(t, s)
	}
}

var (
	numberForm = regexp.MustCompile(`\A(?:0|-?[1-9][0-9]*)\z`)
	textForm   = regexp.MustCompile(`\A"(?:[ !#-\[\]-~]|\\["\\n]|\\x(?:0[0-9b-f]|1[0-9a-f]|7f|[89a-f][0-9a-f]))*"\z`)
)

// simpleNumber reads the form of a number.
func simpleNumber(s string) (int64, bool) {
	n, ok := new(big.Int).SetString(s, 10)
	if !ok || !n.IsInt64() || !numberForm.MatchString(s) {
		return 0, false
	}
	return n.Int64(), true
}

// simpleList reads the form of a list.
func simpleList(s string) (api.Value, bool) {
	v := list()
	inner := s[1 : len(s)-1]
	if inner == "" {
		return v, true
	}
	for _, part := range strings.Split(inner, " ") {
		n, ok := simpleNumber(part)
		if !ok || len(v.L) == 16 {
			return api.Value{}, false
		}
		v.L = append(v.L, n)
	}
	return v, true
}

// simpleRead is Read written by the forms' shapes alone, without Show.
func simpleRead(s string) (api.Value, bool) {
	switch s {
	case "unit":
		return unit, true
	case "true":
		return yes, true
	case "false":
		return no, true
	}
	if n, ok := simpleNumber(s); ok {
		return num(n), true
	}
	if textForm.MatchString(s) {
		// Within this shape, Go's quotes are those of the language.
		value, err := strconv.Unquote(s)
		return text(value), err == nil && len(value) <= 24
	}
	if len(s) >= 2 && s[0] == '[' && s[len(s)-1] == ']' {
		return simpleList(s)
	}
	return api.Value{}, false
}

// check holds Read of s against simpleRead, and Show against s.
func check(t *testing.T, s string) bool {
	t.Helper()
	v, ok := simpleRead(s)
	if !ok {
		wantError(t, s)
		return false
	}
	wantValue(t, s, v)
	if got := data.Show(v); got != s {
		t.Fatalf("P3.3: Show(%#v) = %q, want %q", v, got, s)
	}
	return true
}

func TestReadOfTextsCloseToAForm(t *testing.T) {
	for _, c := range shown {
		for i := range len(c.s) + 1 {
			check(t, c.s[:i])
			check(t, c.s[i:])
			for b := range 256 {
				one := string([]byte{byte(b)})
				check(t, c.s[:i]+one+c.s[i:])
				if i < len(c.s) {
					check(t, c.s[:i]+one+c.s[i+1:])
				}
			}
			if i < len(c.s) {
				check(t, c.s[:i]+c.s[i+1:])
			}
		}
	}
}

func TestReadOfShortTexts(t *testing.T) {
	const some = "[]\"\\xnf01- +:t\n"
	good := 0
	var texts func(start string, n int)
	texts = func(start string, n int) {
		if check(t, start) {
			good++
		}
		for i := 0; n > 0 && i < len(some); i++ {
			texts(start+some[i:i+1], n-1)
		}
	}
	texts("", 5)
	if good < 100 {
		t.Error("too few texts are forms:", good)
	}
}

func TestReadOfEachByteAsAText(t *testing.T) {
	for a := range 256 {
		for b := range 256 {
			v := text(string([]byte{byte(a), byte(b)}))
			check(t, data.Show(v))
			wantValue(t, data.Show(v), v)
		}
	}
}

// randomValue returns a valid value of a Kind other than Chan.
func randomValue(r *rand.Rand) api.Value {
	anyNumber := func() int64 { return int64(r.Uint64()) >> r.Intn(64) }
	v := api.Value{Kind: r.Intn(5)}
	switch v.Kind {
	case api.Int:
		v.N = anyNumber()
	case api.Bool:
		v.N = int64(r.Intn(2))
	case api.Text:
		b := make([]byte, r.Intn(api.MaxText+1))
		r.Read(b)
		v.S = string(b)
	case api.List:
		for range r.Intn(api.MaxList + 1) {
			v.L = append(v.L, anyNumber())
		}
	}
	return v
}

func TestReadOfRandomValues(t *testing.T) {
	r := rand.New(rand.NewSource(7))
	for range 20000 {
		v := randomValue(r)
		s := data.Show(v)
		wantValue(t, s, v)
		if !check(t, s) {
			t.Fatalf("P3.3: Show(%#v) = %q is no form", v, s)
		}
	}
}

func TestReadGivesNewMemory(t *testing.T) {
	a, _ := data.Read("[1 2]")
	b, _ := data.Read("[1 2]")
	whole := a.L[:cap(a.L)]
	for i := range whole {
		whole[i] = 9
	}
	if data.Show(a) != "[9 9]" || data.Show(b) != "[1 2]" {
		t.Error("P0.4: two results share their memory:", a, b)
	}
	wantValue(t, "[1 2]", list(1, 2))
}
