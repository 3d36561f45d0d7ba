package names_test

import (
	"math/rand"
	"regexp"
	"slices"
	"sort"
	"strconv"
	"strings"
	"testing"

	"repartee/api"
	"repartee/names"
)

// keywords is written apart from the package, as the chapter lists it.
var keywords = strings.Split("and, as, at, bool, call, chan, drop, else, empty, end, fail, false, from, hear, if, int, join, len, let, list, local, lost, mod, not, open, or, print, proc, protocol, push, roles, say, spawn, stop, text, to, true, unit, with", ", ")

var shape = regexp.MustCompile(`\A[a-z][a-z0-9]{0,11}\z`)

// words calls f with every string that is start and n more bytes between first and last.
func words(start string, n int, first, last byte, f func(string)) {
	if n == 0 {
		f(start)
		return
	}
	for b := int(first); b <= int(last); b++ {
		words(start+string([]byte{byte(b)}), n-1, first, last, f)
	}
}

func isKeyword(s string) bool { return slices.Contains(keywords, s) }

// checkWord holds Keyword and May of s against the list of keywords and the shape of names.
func checkWord(t *testing.T, s string) {
	t.Helper()
	if got := names.Keyword(s); got != isKeyword(s) {
		t.Errorf("P1.1: Keyword(%q) = %v", s, got)
	}
	if got, want := names.May(s), shape.MatchString(s) && !isKeyword(s); got != want {
		t.Errorf("P1.1: May(%q) = %v", s, got)
	}
}

func TestEveryKeywordIsOneAndNoName(t *testing.T) {
	if len(keywords) != 39 {
		t.Fatal("the chapter lists 39 keywords, here are", len(keywords))
	}
	for _, k := range keywords {
		if !names.Keyword(k) {
			t.Errorf("P1.1: Keyword(%q) = false", k)
		}
		if names.May(k) {
			t.Errorf("P1.1: May(%q) = true", k)
		}
	}
}

func TestWordsNextToKeywords(t *testing.T) {
	for _, k := range keywords {
		for i := range len(k) + 1 {
			for b := range 256 {
				c := string([]byte{byte(b)})
				checkWord(t, k[:i]+c+k[i:])
				if i < len(k) {
					checkWord(t, k[:i]+c+k[i+1:])
				}
			}
		}
		for i := range k {
			checkWord(t, k[:i]+k[i+1:])
			checkWord(t, k[:i])
			checkWord(t, k[i:])
		}
		checkWord(t, strings.ToUpper(k))
		checkWord(t, strings.ToUpper(k[:1])+k[1:])
		checkWord(t, k+k)
		checkWord(t, k+" ")
		checkWord(t, " "+k)
		checkWord(t, k+"\n")
	}
}

func TestShortWords(t *testing.T) {
	check := func(s string) { checkWord(t, s) }
	words("", 0, 0, 255, check)
	words("", 1, 0, 255, check)
	words("", 2, 0, 255, check)
	words("", 3, '/', '{', check)
	words("", 4, 'a', 'z', check)
}

func TestMay(t *testing.T) {
	for _, c := range []struct {
		s    string
		want bool
	}{
		{"seller2", true},
		{"x", true},
		{"a", true},
		{"z", true},
		{"z9", true},
		{"a0b1", true},
		{"main", true},
		{"abcdefghijkl", true},
		{"a00000000000", true},
		{"zzzzzzzzzzzz", true},
		{"ends", true},
		{"end2", true},
		{"protocols", true},
		{"", false},
		{"abcdefghijklm", false},
		{"a000000000000", false},
		{strings.Repeat("a", 1000), false},
		{"2seller", false},
		{"0", false},
		{"Seller", false},
		{"seLler", false},
		{"selleR", false},
		{"a_b", false},
		{"a.b", false},
		{"a-b", false},
		{"a b", false},
		{" a", false},
		{"a ", false},
		{"a\n", false},
		{"a\x00", false},
		{"\x00", false},
		{"`", false},
		{"{", false},
		{"a/", false},
		{"a:", false},
		{"é", false},
		{"aé", false},
		{"a٣", false},
		{"a\xff", false},
		{"abcdefghijk\xc3\xa9", false},
	} {
		if got := names.May(c.s); got != c.want {
			t.Errorf("P1.1: May(%q) = %v", c.s, got)
		}
	}
}

func TestMayOfEachLengthAndEachPlace(t *testing.T) {
	for n := range 2*api.MaxName + 1 {
		s := strings.Repeat("q", n)
		checkWord(t, s)
		checkWord(t, strings.Repeat("7", n))
		for i := range n {
			for b := range 256 {
				checkWord(t, s[:i]+string([]byte{byte(b)})+s[i+1:])
			}
		}
	}
}

func TestPlaceAndHas(t *testing.T) {
	many := make([]string, 1000)
	for i := range many {
		many[i] = "n" + strconv.Itoa(i)
	}
	for _, c := range []struct {
		l    []string
		s    string
		want int
	}{
		{nil, "a", -1},
		{nil, "", -1},
		{[]string{}, "a", -1},
		{[]string{"a"}, "a", 0},
		{[]string{"a"}, "", -1},
		{[]string{""}, "", 0},
		{[]string{"a", "b", "c"}, "a", 0},
		{[]string{"a", "b", "c"}, "b", 1},
		{[]string{"a", "b", "c"}, "c", 2},
		{[]string{"c", "a", "b"}, "b", 2},
		{[]string{"a", "b", "c"}, "d", -1},
		{[]string{"b", "a", "b", "a"}, "a", 1},
		{[]string{"b", "a", "b", "a"}, "b", 0},
		{[]string{"a", "a", "a"}, "a", 0},
		{[]string{"b", "", ""}, "", 1},
		{[]string{"ab", "abc", "a"}, "a", 2},
		{[]string{"ab", "ba"}, "a", -1},
		{[]string{"A", "a"}, "a", 1},
		{[]string{"A"}, "a", -1},
		{[]string{"a\x00", "\xff"}, "\xff", 1},
		{[]string{"a\x00"}, "a", -1},
		{[]string{"\xfe"}, "\xff", -1},
		{many, "n999", 999},
		{many, "n1000", -1},
	} {
		if got := names.Place(c.l, c.s); got != c.want {
			t.Errorf("P1.2: Place(%q, %q) = %d, want %d", c.l, c.s, got, c.want)
		}
		if got := names.Has(c.l, c.s); got != (c.want >= 0) {
			t.Errorf("P1.2: Has(%q, %q) = %v", c.l, c.s, got)
		}
	}
}

func TestOnce(t *testing.T) {
	for _, c := range []struct {
		l    []string
		want bool
	}{
		{nil, true},
		{[]string{}, true},
		{[]string{""}, true},
		{[]string{"a"}, true},
		{[]string{"a", "b", "c"}, true},
		{[]string{"c", "a", "b"}, true},
		{[]string{"", "a"}, true},
		{[]string{"a", "A", "aa", "a\x00", "\xfe", "\xff"}, true},
		{[]string{"", ""}, false},
		{[]string{"a", "a"}, false},
		{[]string{"a", "b", "a"}, false},
		{[]string{"a", "b", "b"}, false},
		{[]string{"b", "b", "a"}, false},
		{[]string{"a", "b", "c", "d", "a"}, false},
		{[]string{"b", "a", "c", "", "d", ""}, false},
		{[]string{"\xff", "a", "\xff"}, false},
		{[]string{"a", "a", "a"}, false},
	} {
		if got := names.Once(c.l); got != c.want {
			t.Errorf("P1.2: Once(%q) = %v", c.l, got)
		}
	}
}

func TestPut(t *testing.T) {
	for _, c := range []struct {
		l    []string
		s    string
		want []string
	}{
		{nil, "a", []string{"a"}},
		{nil, "", []string{""}},
		{[]string{}, "a", []string{"a"}},
		{[]string{"a"}, "a", []string{"a"}},
		{[]string{""}, "", []string{""}},
		{[]string{"a"}, "", []string{"", "a"}},
		{[]string{""}, "a", []string{"", "a"}},
		{[]string{"b", "a", "b"}, "c", []string{"a", "b", "c"}},
		{[]string{"b", "c"}, "a", []string{"a", "b", "c"}},
		{[]string{"a", "c"}, "b", []string{"a", "b", "c"}},
		{[]string{"a", "b"}, "c", []string{"a", "b", "c"}},
		{[]string{"a", "b", "c"}, "b", []string{"a", "b", "c"}},
		{[]string{"c", "b", "a"}, "b", []string{"a", "b", "c"}},
		{[]string{"a", "a", "a"}, "a", []string{"a"}},
		{[]string{"b", "b", "a", "b", "a"}, "a", []string{"a", "b"}},
		{[]string{"a10", "a9"}, "a", []string{"a", "a10", "a9"}},
		{[]string{"a", "é", "z"}, "B", []string{"B", "a", "z", "é"}},
		{[]string{"\xff", "\x00", "a"}, "\xfe", []string{"\x00", "a", "\xfe", "\xff"}},
	} {
		l := slices.Clone(c.l)
		if got := names.Put(c.l, c.s); !slices.Equal(got, c.want) {
			t.Errorf("P1.2: Put(%q, %q) = %q, want %q", l, c.s, got, c.want)
		}
		if !slices.Equal(c.l, l) {
			t.Errorf("P1.2: Put changed %q to %q", l, c.l)
		}
	}
}

func TestPutGivesNewMemory(t *testing.T) {
	l := []string{"a", "b", "c"}
	for _, s := range []string{"a", "c", "d", ""} {
		one, two := names.Put(l, s), names.Put(l, s)
		want := slices.Clone(two)
		for i := range one {
			one[i] = "changed"
		}
		if !slices.Equal(l, []string{"a", "b", "c"}) || !slices.Equal(two, want) {
			t.Errorf("P1.2: the result of Put(l, %q) shares its memory: %q %q", s, l, two)
		}
	}
}

// randomList has up to 11 strings of few letters, so that many are repeated.
func randomList(r *rand.Rand) []string {
	l := make([]string, r.Intn(12))
	for i := range l {
		l[i] = randomWord(r)
	}
	return l
}

func randomWord(r *rand.Rand) string {
	b := make([]byte, r.Intn(3))
	for i := range b {
		b[i] = "abc\xff"[r.Intn(4)]
	}
	return string(b)
}

func TestListsAgainstSimpleOnes(t *testing.T) {
	r := rand.New(rand.NewSource(1))
	for range 5000 {
		l, s := randomList(r), randomWord(r)
		place, once, all := -1, true, map[string]bool{s: true}
		for i := range l {
			if l[i] == s && place < 0 {
				place = i
			}
			for _, x := range l[:i] {
				once = once && x != l[i]
			}
			all[l[i]] = true
		}
		var put []string
		for x := range all {
			put = append(put, x)
		}
		sort.Strings(put)
		if got := names.Place(l, s); got != place || names.Has(l, s) != (place >= 0) {
			t.Fatalf("P1.2: Place(%q, %q) = %d, want %d", l, s, got, place)
		}
		if names.Once(l) != once {
			t.Fatalf("P1.2: Once(%q) = %v", l, !once)
		}
		if got := names.Put(l, s); !slices.Equal(got, put) {
			t.Fatalf("P1.2: Put(%q, %q) = %q, want %q", l, s, got, put)
		}
	}
}

func TestNothingBeyondAListIsReadOrWritten(t *testing.T) {
	room := []string{"b", "a", "x", "a", "x2"}
	want := slices.Clone(room)
	l := room[:2]
	if names.Has(l, "x") || names.Place(l, "x") != -1 {
		t.Error("P1.2: Has or Place reads beyond its list")
	}
	if !names.Once(l) || !names.Once(room[:0]) {
		t.Error("P1.2: Once reads beyond its list")
	}
	if got := names.Put(l, "c"); !slices.Equal(got, []string{"a", "b", "c"}) {
		t.Error("P1.2: Put reads beyond its list:", got)
	}
	if got := names.Fresh(l, "x"); got != "x" {
		t.Error("P1.3: Fresh reads beyond its list:", got)
	}
	if got := names.Fresh(room[:3], "x"); got != "x2" {
		t.Error("P1.3: Fresh reads beyond its list:", got)
	}
	if !slices.Equal(room, want) {
		t.Error("P1.2: a list was changed:", room)
	}
}

// numbered is the list of s and of s followed by the numbers from 2 to last, as Fresh hands them out.
func numbered(s string, last int) []string {
	l := []string{s}
	for k := 2; k <= last; k++ {
		d := strconv.Itoa(k)
		c := s
		if len(c) > api.MaxName-len(d) {
			c = c[:api.MaxName-len(d)]
		}
		l = append(l, c+d)
	}
	return l
}

func TestFresh(t *testing.T) {
	long := "abcdefghijklmnopqrstuvwxyz"
	for _, c := range []struct {
		l    []string
		s    string
		want string
	}{
		{[]string{"x", "x2"}, "x", "x3"},
		{nil, "x", "x"},
		{[]string{}, "x", "x"},
		{nil, "", ""},
		{[]string{"y", "x2", "xx"}, "x", "x"},
		{[]string{"x"}, "x", "x2"},
		{[]string{"y", "x"}, "x", "x2"},
		{[]string{"x", "x", "x2", "x2"}, "x", "x3"},
		{[]string{"x", "x1"}, "x", "x2"},
		{[]string{"x", "x3"}, "x", "x2"},
		{[]string{"x5", "x3", "x2", "x"}, "x", "x4"},
		{[]string{"x2"}, "x2", "x22"},
		{[]string{"x2", "x22"}, "x2", "x23"},
		{[]string{""}, "", "2"},
		{[]string{"", "2", "3"}, "", "4"},
		{numbered("x", 9), "x", "x10"},
		{numbered("x", 99), "x", "x100"},
		{[]string{"end"}, "end", "end2"},
		{[]string{"A b"}, "A b", "A b2"},

		{[]string{"abcdefghij"}, "abcdefghij", "abcdefghij2"},
		{numbered("abcdefghij", 9), "abcdefghij", "abcdefghij10"},
		{numbered("abcdefghij", 99), "abcdefghij", "abcdefghi100"},
		{[]string{"abcdefghijk"}, "abcdefghijk", "abcdefghijk2"},
		{numbered("abcdefghijk", 9), "abcdefghijk", "abcdefghij10"},
		{[]string{"abcdefghijkl"}, "abcdefghijkl", "abcdefghijk2"},
		{numbered("abcdefghijkl", 9), "abcdefghijkl", "abcdefghij10"},
		{numbered("abcdefghijkl", 99), "abcdefghijkl", "abcdefghi100"},
		{numbered("abcdefghijkl", 999), "abcdefghijkl", "abcdefgh1000"},
		{numbered("abcdefghijkl", 9)[1:], "abcdefghijkl", "abcdefghijkl"},
		{[]string{"abcdefghijkl", "abcdefghijkl2"}, "abcdefghijkl", "abcdefghijk2"},

		{nil, long, long},
		{[]string{"abcdefghijkl"}, long, long},
		{[]string{long}, long, "abcdefghijk2"},
		{[]string{long, "abcdefghijk2"}, long, "abcdefghijk3"},
		{[]string{"ééééééé"}, "ééééééé", "ééééé\xc32"},
		{[]string{"\xff\xff"}, "\xff\xff", "\xff\xff2"},
	} {
		l := slices.Clone(c.l)
		if got := names.Fresh(c.l, c.s); got != c.want {
			t.Errorf("P1.3: Fresh(%q, %q) = %q, want %q", c.l, c.s, got, c.want)
		}
		if !slices.Equal(c.l, l) {
			t.Errorf("P1.3: Fresh changed %q to %q", l, c.l)
		}
	}
}

// The numbers 2 and 12 make one string of an s that ends in 1 where the cut sets in: both are taken by it.
func TestFreshWhereTwoNumbersMakeOneString(t *testing.T) {
	s := "abcdefghij1"
	l := []string{s, "abcdefghij12", "abcdefghij13", "abcdefghij14"}
	if got := names.Fresh(l, s); got != "abcdefghij15" {
		t.Errorf("P1.3: Fresh(%q, %q) = %q", l, s, got)
	}
	l = numbered(s, 11)
	if got := names.Fresh(l, s); got != "abcdefghij20" {
		t.Errorf("P1.3: Fresh(%q, %q) = %q", l, s, got)
	}
}

func TestFreshOfEachLength(t *testing.T) {
	for n := 1; n <= api.MaxName; n++ {
		s := strings.Repeat("q", n)
		all := numbered(s, 1200)
		for i, want := range all {
			if got := names.Fresh(all[:i], s); got != want || !names.May(got) {
				t.Fatalf("P1.3: Fresh of %q and %d others = %q, want %q", s, i, got, want)
			}
		}
	}
}

func TestFreshOfALongList(t *testing.T) {
	l := numbered("abcdefghijkl", 300000)
	if got := names.Fresh(l, "abcdefghijkl"); got != "abcdef300001" {
		t.Errorf("P1.3: Fresh of a long list = %q", got)
	}
}
