package data_test

import (
	"math"
	"math/rand"
	"slices"
	"strings"
	"testing"

	"repartee/api"
	"repartee/data"
)

func num(n int64) api.Value           { return api.Value{Kind: api.Int, N: n} }
func text(s string) api.Value         { return api.Value{Kind: api.Text, S: s} }
func list(l ...int64) api.Value       { return api.Value{Kind: api.List, L: l} }
func end(s string, n int64) api.Value { return api.Value{Kind: api.Chan, S: s, N: n} }

var (
	unit  = api.Value{Kind: api.Unit}
	no    = api.Value{Kind: api.Bool}
	yes   = api.Value{Kind: api.Bool, N: 1}
	kinds = []int{math.MinInt, -1, api.Unit, api.Int, api.Bool, api.Text, api.List, api.Chan, 6, 256, math.MaxInt}
)

// grid returns a value for each choice of its fields, of which some are at bounds and some beyond them.
func grid() []api.Value {
	ns := []int64{math.MinInt64, -1, 0, 1, 2, 4, 5, math.MaxInt64}
	texts := []string{"", "a", "\xff", strings.Repeat("a", api.MaxText), strings.Repeat("a", api.MaxText+1)}
	lists := [][]int64{nil, {}, {0}, {math.MaxInt64, math.MinInt64}, make([]int64, api.MaxList), make([]int64, api.MaxList+1)}
	var all []api.Value
	for _, k := range kinds {
		for _, n := range ns {
			for _, s := range texts {
				for _, l := range lists {
					all = append(all, api.Value{Kind: k, N: n, S: s, L: l})
				}
			}
		}
	}
	return all
}

// valid is May written as the chapter says it, field by field.
func valid(v api.Value) bool {
	n, s, l := v.N == 0, v.S == "", len(v.L) == 0
	switch v.Kind {
	case 0:
		return n && s && l
	case 1:
		return s && l
	case 2:
		return (v.N == 0 || v.N == 1) && s && l
	case 3:
		return len(v.S) <= 24 && n && l
	case 4:
		return len(v.L) <= 16 && n && s
	case 5:
		return len(v.S) >= 1 && v.N >= 0 && v.N <= 4 && l
	}
	return false
}

func TestMayOfEachChoiceOfFields(t *testing.T) {
	for _, v := range grid() {
		if got := data.May(v); got != valid(v) {
			t.Fatalf("P3.1: May(%#v) = %t", v, got)
		}
	}
}

func TestMayOfValidValues(t *testing.T) {
	for _, v := range []api.Value{
		unit, no, yes,
		num(0), num(-1), num(math.MinInt64), num(math.MaxInt64),
		text(""), text("a"), text("\x00\xff"), text(strings.Repeat("x", 24)), text(strings.Repeat("\xff", 24)),
		list(), list(0), list(math.MinInt64, math.MaxInt64), list(make([]int64, 16)...),
		end("a", 0), end("0.1/2", 4), end("\x00", 1), end(strings.Repeat("x", 1000), 3),
		{L: []int64{}}, {Kind: api.Int, L: []int64{}}, {Kind: api.Bool, L: []int64{}}, {Kind: api.Text, L: []int64{}}, {Kind: api.List, L: []int64{}}, {Kind: api.Chan, S: "a", L: []int64{}},
	} {
		if !data.May(v) {
			t.Errorf("P3.1: May(%#v) is false", v)
		}
	}
}

// invalidValues has, for each Kind, each field that it does not have set, and its own fields one beyond their bounds.
var invalidValues = []api.Value{
	{N: 1}, {N: -1}, {S: "a"}, {L: []int64{0}},
	{Kind: api.Int, S: "a"}, {Kind: api.Int, L: []int64{0}}, {Kind: api.Int, N: 1, S: "1"},
	{Kind: api.Bool, N: 2}, {Kind: api.Bool, N: -1}, {Kind: api.Bool, N: 1 << 32}, {Kind: api.Bool, S: "a"}, {Kind: api.Bool, L: []int64{0}},
	{Kind: api.Text, S: strings.Repeat("x", 25)}, {Kind: api.Text, N: 1}, {Kind: api.Text, S: "a", L: []int64{0}},
	{Kind: api.List, L: make([]int64, 17)}, {Kind: api.List, N: 1}, {Kind: api.List, N: -1, L: []int64{1}}, {Kind: api.List, S: "a"},
	{Kind: api.Chan}, {Kind: api.Chan, N: 1}, {Kind: api.Chan, S: "a", N: -1}, {Kind: api.Chan, S: "a", N: 5}, {Kind: api.Chan, S: "a", N: 1 << 32}, {Kind: api.Chan, S: "a", L: []int64{0}},
	{Kind: -1}, {Kind: 6}, {Kind: math.MinInt}, {Kind: math.MaxInt}, {Kind: 256}, {Kind: 6, N: 1, S: "a"},
}

func TestMayOfInvalidValues(t *testing.T) {
	for _, v := range invalidValues {
		if data.May(v) {
			t.Errorf("P3.1: May(%#v) is true", v)
		}
	}
}

// simpleCompare holds the fields against each other in the chapter's order.
func simpleCompare(a, b api.Value) int {
	signs := []int{sign(a.Kind < b.Kind, a.Kind > b.Kind), sign(a.N < b.N, a.N > b.N), strings.Compare(a.S, b.S), slices.Compare(a.L, b.L)}
	for _, s := range signs {
		if s != 0 {
			return s
		}
	}
	return 0
}

func sign(less, greater bool) int {
	switch {
	case less:
		return -1
	case greater:
		return 1
	}
	return 0
}

// checkPair checks what Same and Less tell of a and b, in both orders.
func checkPair(t *testing.T, a, b api.Value, want int) {
	t.Helper()
	same, less, greater := data.Same(a, b), data.Less(a, b), data.Less(b, a)
	if same != (want == 0) || data.Same(b, a) != same || less != (want < 0) || greater != (want > 0) {
		t.Fatalf("P3.2: Same(%#v, %#v) = %t, Less %t, and %t the other way", a, b, same, less, greater)
	}
}

func TestSameAndLessOfEachPair(t *testing.T) {
	var all []api.Value
	for _, k := range kinds {
		for _, n := range []int64{math.MinInt64, -1, 0, 1, math.MaxInt64} {
			for _, s := range []string{"", "a", "\xff"} {
				for _, l := range [][]int64{nil, {}, {0}, {0, -1}, {1}} {
					all = append(all, api.Value{Kind: k, N: n, S: s, L: l})
				}
			}
		}
	}
	for _, a := range all {
		for _, b := range all {
			checkPair(t, a, b, simpleCompare(a, b))
		}
	}
}

// checkRising checks that each value of l is less than those behind it.
func checkRising(t *testing.T, l []api.Value) {
	t.Helper()
	for i, a := range l {
		for k, b := range l {
			checkPair(t, a, b, sign(i < k, i > k))
		}
	}
}

func TestLessOfValidValues(t *testing.T) {
	checkRising(t, []api.Value{
		unit,
		num(math.MinInt64), num(math.MinInt64 + 1), num(-2), num(-1), num(0), num(1), num(2), num(math.MaxInt64 - 1), num(math.MaxInt64),
		no, yes,
		text(""), text("\x00"), text("\x00\x00"), text(" "), text("10"), text("9"), text("Z"), text("a"), text("a\x00"), text("aa"), text("ab"), text("b"), text("z"), text("é"), text("\xff"), text("\xffa"),
		list(), list(math.MinInt64), list(-1), list(-1, 5), list(0), list(0, math.MinInt64), list(0, 0), list(0, 0, 0), list(0, 1), list(1), list(2, -7), list(10), list(math.MaxInt64),
		end("a", 0), end("aa", 0), end("b", 0), end("a", 1), end("a", 4), end("b", 4),
	})
}

func TestLessDecidesByTheFirstFieldThatDiffers(t *testing.T) {
	// Each value is less than the next by one field, and greater by all fields behind that one.
	checkRising(t, []api.Value{
		{Kind: 1, N: 9, S: "z", L: []int64{9}},
		{Kind: 2, N: 0, S: "z", L: []int64{9}},
		{Kind: 2, N: 1, S: "a", L: []int64{9}},
		{Kind: 2, N: 1, S: "b", L: []int64{0, 9}},
		{Kind: 2, N: 1, S: "b", L: []int64{1}},
		{Kind: 3, N: -1, S: "", L: nil},
	})
	less := api.Value{Kind: -3, N: -5, S: "a", L: []int64{1, 2}}
	more := api.Value{Kind: 7, N: 6, S: "b", L: []int64{1, 3}}
	for chosen := range 16 {
		a, b := less, less
		want := 0
		for f := 3; f >= 0; f-- {
			if chosen>>f&1 == 1 {
				want = -1
				setField(&b, more, f)
			}
		}
		checkPair(t, a, b, want)
	}
	for first := range 4 {
		for second := first + 1; second < 4; second++ {
			a, b := less, less
			setField(&b, more, first)
			setField(&a, more, second)
			checkPair(t, a, b, -1)
		}
	}
}

// setField gives v the field of w with this place in the order of P3.2.
func setField(v *api.Value, w api.Value, field int) {
	switch field {
	case 0:
		v.Kind = w.Kind
	case 1:
		v.N = w.N
	case 2:
		v.S = w.S
	case 3:
		v.L = w.L
	}
}

func TestLessOfLists(t *testing.T) {
	long := make([]int64, 1000)
	longer := append(slices.Clone(long), 0)
	last := slices.Clone(long)
	last[999] = 1
	checkRising(t, []api.Value{list(long[:999]...), list(long...), list(longer...), list(last...)})
	checkPair(t, list(), api.Value{Kind: api.List, L: []int64{}}, 0)
	checkPair(t, list(long...), list(slices.Clone(long)...), 0)
	checkPair(t, list(1, 2, 3), list(1, 2, 4), -1)
	checkPair(t, list(2, 0, 0), list(1, 9, 9), 1)
	checkPair(t, list(1, 2), list(1, 2, math.MinInt64), -1)
}

func TestLessOfRandomValuesSortsThem(t *testing.T) {
	r := rand.New(rand.NewSource(5))
	all := make([]api.Value, 2000)
	for i := range all {
		all[i] = api.Value{Kind: r.Intn(3), N: int64(r.Intn(3)), S: strings.Repeat("a", r.Intn(3)), L: make([]int64, r.Intn(3))}
		for k := range all[i].L {
			all[i].L[k] = int64(r.Intn(2))
		}
	}
	slices.SortFunc(all, func(a, b api.Value) int { return sign(data.Less(a, b), data.Less(b, a)) })
	for i := range len(all) - 1 {
		checkPair(t, all[i], all[i+1], simpleCompare(all[i], all[i+1]))
		if simpleCompare(all[i], all[i+1]) > 0 {
			t.Fatalf("P3.2: sorting by Less puts %#v ahead of %#v", all[i], all[i+1])
		}
	}
}

func TestArgumentsAreLeftAlone(t *testing.T) {
	a := []int64{1, -2, 77, 78}
	b := []int64{1, -2, 79, 80}
	v, w := list(a[:2]...), list(b[:2]...)
	v.L, w.L = a[:2], b[:2]
	checkPair(t, v, w, 0)
	if !data.May(v) || data.Show(v) != "[1 -2]" {
		t.Error("P0.4: memory beyond a list counts:", data.Show(v))
	}
	if !slices.Equal(a, []int64{1, -2, 77, 78}) || !slices.Equal(b, []int64{1, -2, 79, 80}) {
		t.Error("P0.4: an argument has changed:", a, b)
	}
}
