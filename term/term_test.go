package term_test

import (
	"math"
	"math/rand"
	"slices"
	"strings"
	"testing"

	"repartee/api"
	"repartee/data"
	"repartee/names"
	"repartee/term"
)

// row is a list of terms, to which each method adds one and returns its index.
type row struct{ l []api.Term }

func (r *row) put(t api.Term) int {
	r.l = append(r.l, t)
	return len(r.l) - 1
}

func (r *row) leaf(kind int) int      { return r.put(api.Term{Kind: kind, L: -1, R: -1}) }
func (r *row) num(n int64) int        { return r.put(api.Term{Kind: api.TNum, N: n, L: -1, R: -1}) }
func (r *row) truth(n int64) int      { return r.put(api.Term{Kind: api.TBool, N: n, L: -1, R: -1}) }
func (r *row) text(s string) int      { return r.put(api.Term{Kind: api.TText, Text: s, L: -1, R: -1}) }
func (r *row) name(s string) int      { return r.put(api.Term{Kind: api.TVar, Name: s, L: -1, R: -1}) }
func (r *row) one(kind, at int) int   { return r.put(api.Term{Kind: kind, L: at, R: -1}) }
func (r *row) two(kind, a, b int) int { return r.put(api.Term{Kind: kind, L: a, R: b}) }

var (
	oneKinds = []int{api.TNot, api.TLen}
	twoKinds = []int{api.TAdd, api.TSub, api.TMul, api.TDiv, api.TMod, api.TEq, api.TLess, api.TAnd, api.TOr, api.TAt, api.TPush, api.TJoin}
)

// validAlone tells what P4.1 says of the fields of t as the term at this index, one by one.
func validAlone(t api.Term, at int) bool {
	left, right := t.L == -1, t.R == -1
	if slices.Contains(oneKinds, t.Kind) || slices.Contains(twoKinds, t.Kind) {
		left = t.L >= 0 && t.L < at
	}
	if slices.Contains(twoKinds, t.Kind) {
		right = t.R >= 0 && t.R < at
	}
	name, n, text := t.Name == "", t.N == 0, t.Text == ""
	switch t.Kind {
	case 0:
		name = names.May(t.Name)
	case 1:
		n = true
	case 2:
		n = t.N == 0 || t.N == 1
	case 3:
		text = len(t.Text) <= 24
	}
	return t.Kind >= 0 && t.Kind <= 19 && left && right && name && n && text
}

// validTree returns the indices of the terms of the tree, and whether it is valid: it counts for all of them how often each is an operand, and how long the path to it is.
func validTree(l []api.Term, root int) ([]int, bool) {
	if len(l) > 160 || root < 0 || root >= len(l) {
		return nil, false
	}
	tree, uses, path := []int{root}, make([]int, len(l)), make([]int, len(l))
	path[root] = 1
	for i := 0; i < len(tree); i++ {
		at := tree[i]
		if !validAlone(l[at], at) {
			return nil, false
		}
		for _, o := range []int{l[at].L, l[at].R} {
			if o == -1 {
				continue
			}
			uses[o]++
			path[o] = path[at] + 1
			if uses[o] > 1 || path[o] > 24 {
				return nil, false
			}
			tree = append(tree, o)
		}
	}
	return tree, true
}

// simpleVars returns what P4.2 says of the tree, valid or not.
func simpleVars(l []api.Term, root int) []string {
	tree, _ := validTree(l, root)
	var all []string
	for _, at := range tree {
		if l[at].Kind == 0 && !slices.Contains(all, l[at].Name) {
			all = append(all, l[at].Name)
		}
	}
	slices.Sort(all)
	return all
}

// checkTree checks what the three functions tell of the tree, which is valid or not, as want says.
func checkTree(t *testing.T, r *row, root int, want bool) {
	t.Helper()
	l := r.l
	before := slices.Clone(l)
	if got := term.May(l, root); got != want {
		t.Fatalf("P4.1: May(%v, %d) = %t", l, root, got)
	}
	if got := term.Vars(l, root); !slices.Equal(got, simpleVars(l, root)) {
		t.Fatalf("P4.2: Vars(%v, %d) = %q", l, root, got)
	}
	v, e := term.Eval(l, root, nil)
	if (e == api.ErrTermForm) == want {
		t.Fatalf("P4.3: Eval(%v, %d) = %v, %d", l, root, v, e)
	}
	if e != api.OK && !data.Same(v, api.Value{}) {
		t.Fatalf("P0.3: Eval(%v, %d) = %v, %d", l, root, v, e)
	}
	if !slices.Equal(l, before) {
		t.Fatalf("P0.4: %v has become %v", before, l)
	}
}

func TestMayOfEachChoiceOfFields(t *testing.T) {
	places := []int{math.MinInt, -2, -1, 0, 1, 2, 3, 4, 5, math.MaxInt}
	ns := []int64{math.MinInt64, -1, 0, 1, 2, 1 << 32, math.MaxInt64}
	words := []string{"", "a", "abcdefghijkl", "abcdefghijklm", "end", "A"}
	texts := []string{"", "a", strings.Repeat("x", 24), strings.Repeat("x", 25)}
	check := func(x api.Term) {
		leaf := api.Term{Kind: api.TNum, L: -1, R: -1}
		want := validAlone(x, 2) && (x.L == -1 || x.L != x.R)
		if got := term.May([]api.Term{leaf, leaf, x, leaf, leaf}, 2); got != want {
			t.Fatalf("P4.1: May of %#v as the third of five = %t", x, got)
		}
	}
	for kind := -2; kind <= 22; kind++ {
		for _, a := range places {
			for _, b := range places {
				for _, n := range ns {
					for _, name := range words {
						for _, s := range texts {
							check(api.Term{Kind: kind, Name: name, N: n, Text: s, L: a, R: b})
						}
					}
				}
			}
		}
	}
	for _, kind := range []int{math.MinInt, math.MaxInt, 256, 1 << 32} {
		check(api.Term{Kind: kind, L: -1, R: -1})
		check(api.Term{Kind: kind, L: 0, R: -1})
		check(api.Term{Kind: kind, L: 0, R: 1})
	}
}

func TestMayOfSingleTerms(t *testing.T) {
	for _, x := range []api.Term{
		{Kind: api.TVar, Name: "a"}, {Kind: api.TVar, Name: "z9"}, {Kind: api.TVar, Name: "abcdefghijkl"},
		{Kind: api.TNum}, {Kind: api.TNum, N: 1}, {Kind: api.TNum, N: -1}, {Kind: api.TNum, N: math.MinInt64}, {Kind: api.TNum, N: math.MaxInt64},
		{Kind: api.TBool}, {Kind: api.TBool, N: 1},
		{Kind: api.TText}, {Kind: api.TText, Text: "end"}, {Kind: api.TText, Text: "\x00\xff"}, {Kind: api.TText, Text: strings.Repeat("\xff", 24)},
		{Kind: api.TEmpty}, {Kind: api.TUnit},
	} {
		checkTree(t, &row{[]api.Term{x}}, 0, false)
		x.L, x.R = -1, -1
		checkTree(t, &row{[]api.Term{x}}, 0, true)
	}
}

// invalidLeaves have, for each Kind without operands, each field that it does not have set, and its own fields beyond their bounds; and Kinds that there are not.
var invalidLeaves = []api.Term{
	{Kind: api.TVar}, {Kind: api.TVar, Name: "A"}, {Kind: api.TVar, Name: "9"}, {Kind: api.TVar, Name: "a b"}, {Kind: api.TVar, Name: "unit"}, {Kind: api.TVar, Name: "abcdefghijklm"}, {Kind: api.TVar, Name: "a", N: 1}, {Kind: api.TVar, Name: "a", Text: "a"}, {Kind: api.TVar, Text: "a"},
	{Kind: api.TNum, Name: "a"}, {Kind: api.TNum, N: 1, Name: "a"}, {Kind: api.TNum, Text: "a"}, {Kind: api.TNum, N: 1, Text: "1"},
	{Kind: api.TBool, N: 2}, {Kind: api.TBool, N: -1}, {Kind: api.TBool, N: 1 << 32}, {Kind: api.TBool, N: math.MinInt64}, {Kind: api.TBool, Name: "true"}, {Kind: api.TBool, N: 1, Text: "true"},
	{Kind: api.TText, Text: strings.Repeat("x", 25)}, {Kind: api.TText, Name: "a"}, {Kind: api.TText, Text: "a", Name: "a"}, {Kind: api.TText, N: 1}, {Kind: api.TText, Text: "a", N: -1},
	{Kind: api.TEmpty, Name: "a"}, {Kind: api.TEmpty, N: 1}, {Kind: api.TEmpty, Text: "a"},
	{Kind: api.TUnit, Name: "a"}, {Kind: api.TUnit, N: -1}, {Kind: api.TUnit, Text: "a"},
	{Kind: -1}, {Kind: 20}, {Kind: 256}, {Kind: math.MinInt}, {Kind: math.MaxInt},
}

func TestMayOfInvalidTermsInEachPlace(t *testing.T) {
	for _, x := range invalidLeaves {
		x.L, x.R = -1, -1
		r := &row{}
		r.name("a")
		r.put(x)
		checkTree(t, r, 1, false)
		checkTree(t, r, r.one(api.TNot, 1), false)
		checkTree(t, r, r.two(api.TEq, 0, 1), false)
		checkTree(t, r, r.two(api.TEq, 1, 0), false)
		checkTree(t, r, r.one(api.TLen, 2), false)
		checkTree(t, r, r.two(api.TAdd, r.name("b"), 2), false)
		checkTree(t, r, 0, true)
	}
}

func TestMayOfTermsWithOperands(t *testing.T) {
	bad := []func(*api.Term){
		func(x *api.Term) { x.Name = "a" }, func(x *api.Term) { x.N = 1 }, func(x *api.Term) { x.N = -1 }, func(x *api.Term) { x.Text = "a" },
		func(x *api.Term) { x.L = -1 }, func(x *api.Term) { x.L = -2 }, func(x *api.Term) { x.L = math.MinInt },
		func(x *api.Term) { x.L = 3 }, func(x *api.Term) { x.L = 4 }, func(x *api.Term) { x.L = 5 }, func(x *api.Term) { x.L = math.MaxInt },
		func(x *api.Term) { x.R = -2 }, func(x *api.Term) { x.R = math.MinInt }, func(x *api.Term) { x.R = x.L },
		func(x *api.Term) { x.R = 3 }, func(x *api.Term) { x.R = 4 }, func(x *api.Term) { x.R = 5 }, func(x *api.Term) { x.R = math.MaxInt },
	}
	check := func(x api.Term, want bool) {
		l := []api.Term{{Kind: api.TVar, Name: "a", L: -1, R: -1}, {Kind: api.TText, Text: "b", L: -1, R: -1}, {Kind: api.TNum, N: 7, L: -1, R: -1}, x, {Kind: api.TUnit, L: -1, R: -1}}
		checkTree(t, &row{l}, 3, want)
		checkTree(t, &row{append(l, api.Term{Kind: api.TNot, L: 3, R: -1})}, 5, want)
	}
	for a := range 3 {
		for _, kind := range oneKinds {
			x := api.Term{Kind: kind, L: a, R: -1}
			check(x, true)
			for _, spoil := range bad {
				y := x
				spoil(&y)
				check(y, false)
			}
			check(api.Term{Kind: kind, L: a, R: (a + 1) % 3}, false)
			check(api.Term{Kind: kind, L: -1, R: a}, false)
		}
		for _, kind := range twoKinds {
			x := api.Term{Kind: kind, L: a, R: (a + 1) % 3}
			check(x, true)
			check(api.Term{Kind: kind, L: x.R, R: x.L}, true)
			for _, spoil := range bad {
				y := x
				spoil(&y)
				check(y, false)
			}
			check(api.Term{Kind: kind, L: a, R: -1}, false)
			check(api.Term{Kind: kind, L: -1, R: -1}, false)
		}
	}
}

func TestMayOfRootsThatAreNoIndex(t *testing.T) {
	for _, n := range []int{0, 1, 2, 160} {
		l := make([]api.Term, n, n+2)
		for i := range l {
			l[i] = api.Term{Kind: api.TUnit, L: -1, R: -1}
		}
		copy(l[n:n+2], []api.Term{{Kind: api.TUnit, L: -1, R: -1}, {Kind: api.TUnit, L: -1, R: -1}})
		for root := range n {
			checkTree(t, &row{l}, root, true)
		}
		for _, root := range []int{math.MinInt, -n - 1, -2, -1, n, n + 1, n + 2, n + 3, 1 << 32, math.MaxInt} {
			checkTree(t, &row{l}, root, false)
		}
	}
	checkTree(t, &row{nil}, 0, false)
	checkTree(t, &row{nil}, -1, false)
}

func TestMayOfTermsThatAreUsedTwice(t *testing.T) {
	r := &row{}
	a, b := r.truth(1), r.name("b")
	checkTree(t, r, r.two(api.TAnd, a, a), false)
	checkTree(t, r, r.two(api.TAnd, b, b), false)
	both := r.two(api.TAnd, a, b)
	not := r.one(api.TNot, a)
	other := r.one(api.TNot, a)
	checkTree(t, r, r.two(api.TOr, both, a), false)
	checkTree(t, r, r.two(api.TOr, b, both), false)
	checkTree(t, r, r.two(api.TOr, not, other), false)
	checkTree(t, r, r.two(api.TOr, not, both), false)
	checkTree(t, r, r.two(api.TOr, both, both), false)
	checkTree(t, r, r.one(api.TNot, r.two(api.TOr, r.one(api.TNot, both), r.one(api.TNot, a))), false)
	// Each of these is used by several terms, of which the tree has one.
	checkTree(t, r, both, true)
	checkTree(t, r, not, true)
	checkTree(t, r, other, true)
	checkTree(t, r, r.two(api.TOr, not, b), true)
	checkTree(t, r, r.one(api.TNot, both), true)
}

func TestMayOfTermsThatAreTheirOwnOperands(t *testing.T) {
	for _, l := range [][]api.Term{
		{{Kind: api.TNot, L: 0, R: -1}},
		{{Kind: api.TNot, L: 1, R: -1}, {Kind: api.TNot, L: 0, R: -1}},
		{{Kind: api.TNot, L: 1, R: -1}, {Kind: api.TUnit, L: -1, R: -1}},
		{{Kind: api.TEq, L: 0, R: 0}},
		{{Kind: api.TEq, L: 1, R: 2}, {Kind: api.TEq, L: 0, R: 2}, {Kind: api.TEq, L: 0, R: 1}},
	} {
		checkTree(t, &row{l}, 0, false)
		checkTree(t, &row{l}, len(l)-1, l[len(l)-1].Kind == api.TUnit)
	}
}

func TestMayOfTheDeepestTrees(t *testing.T) {
	for _, kind := range append(slices.Clone(oneKinds), twoKinds...) {
		for side := range 2 {
			r := &row{}
			at := r.truth(1)
			for deep := 2; deep <= 30; deep++ {
				switch {
				case slices.Contains(oneKinds, kind):
					at = r.one(kind, at)
				case side == 0:
					at = r.two(kind, at, r.name("x"))
				default:
					at = r.two(kind, r.name("x"), at)
				}
				checkTree(t, r, at, deep <= 24)
			}
			// Another path to the first term is short, and outside the tree.
			checkTree(t, r, r.one(api.TNot, 0), true)
		}
	}
}

// widest returns terms of which one tree has all, with n variables.
func widest(n int) ([]api.Term, int) {
	r := &row{}
	var open []int
	for i := range n {
		open = append(open, r.name("x"+string(rune('a'+i%26))))
	}
	for len(open) > 1 {
		open = append(open[2:], r.two(api.TAdd, open[0], open[1]))
	}
	return r.l, open[0]
}

func TestMayOfTheGreatestNumberOfTerms(t *testing.T) {
	l, root := widest(80)
	checkTree(t, &row{l}, root, true)
	l = append(l, api.Term{Kind: api.TLen, L: root, R: -1})
	if len(l) != 160 {
		t.Fatal("the tree has", len(l), "terms")
	}
	checkTree(t, &row{l}, 159, true)
	checkTree(t, &row{append(l, api.Term{Kind: api.TNot, L: 159, R: -1})}, 160, false)
	for _, x := range []api.Term{{Kind: api.TUnit, L: -1, R: -1}, {Kind: -1}} {
		more := append(slices.Clone(l), x)
		checkTree(t, &row{more}, 159, false)
		checkTree(t, &row{more}, 0, false)
		checkTree(t, &row{more}, 160, false)
		checkTree(t, &row{more[:160]}, 159, true)
	}
	checkTree(t, &row{make([]api.Term, 100000)}, 0, false)
}

func TestMayOfTermsOutsideTheTree(t *testing.T) {
	outside := []api.Term{{}, {Kind: -1}, {Kind: 20, L: 1, R: 1}, {Kind: api.TVar, Name: "end", L: -1, R: -1}, {Kind: api.TAdd, L: 1, R: 3}, {Kind: api.TAdd, L: 6, R: 6}, {Kind: api.TNot, L: 99, R: -7}, {Kind: api.TText, Text: strings.Repeat("x", 99)}, {Kind: api.TVar, Name: "out", L: -1, R: -1}}
	for _, x := range outside {
		for _, y := range outside {
			l := []api.Term{x, {Kind: api.TVar, Name: "b", L: -1, R: -1}, y, {Kind: api.TVar, Name: "a", L: -1, R: -1}, x, {Kind: api.TSub, L: 1, R: 3}, y}
			checkTree(t, &row{l}, 5, true)
			checkTree(t, &row{l}, 3, true)
			if got := term.Vars(l, 5); !slices.Equal(got, []string{"a", "b"}) {
				t.Fatalf("P4.2: Vars(%v, 5) = %q", l, got)
			}
		}
	}
}

// randomTerm returns a term for the place at, which is valid by itself more often than not.
func randomTerm(r *rand.Rand, at int) api.Term {
	x := api.Term{Kind: r.Intn(20), L: -1, R: -1}
	switch {
	case at == 0 || r.Intn(3) == 0:
		x.Kind = r.Intn(6)
	case slices.Contains(oneKinds, x.Kind):
		x.L = r.Intn(at)
	case x.Kind > 5:
		x.L, x.R = r.Intn(at), r.Intn(at)
	}
	switch x.Kind {
	case api.TVar:
		x.Name = string(rune('a' + r.Intn(5)))
	case api.TNum, api.TBool:
		x.N = int64(r.Intn(2))
	}
	if r.Intn(20) == 0 {
		x.R = r.Intn(at + 2)
	}
	if r.Intn(40) == 0 {
		x.N = 2
	}
	return x
}

func TestMayAndVarsOfRandomLists(t *testing.T) {
	r := rand.New(rand.NewSource(4))
	large, refused := 0, 0
	for range 20000 {
		l := make([]api.Term, 1+r.Intn(12))
		for i := range l {
			l[i] = randomTerm(r, i)
		}
		for root := range l {
			tree, want := validTree(l, root)
			checkTree(t, &row{l}, root, want)
			if !want {
				refused++
			} else if len(tree) > 4 {
				large++
			}
		}
	}
	if large < 500 || refused < 500 {
		t.Errorf("only %d valid trees were large, and %d invalid", large, refused)
	}
}

func TestVars(t *testing.T) {
	r := &row{}
	x := r.name("x")
	checkVars(t, r, x, "x")
	checkVars(t, r, r.one(api.TLen, x), "x")
	sum := r.two(api.TAdd, r.name("z"), r.name("b"))
	checkVars(t, r, sum, "b", "z")
	r.name("out")
	same := r.two(api.TEq, sum, r.two(api.TSub, r.name("b"), r.name("ab")))
	checkVars(t, r, same, "ab", "b", "z")
	checkVars(t, r, r.two(api.TAnd, r.text("text"), r.two(api.TOr, r.num(1), r.leaf(api.TEmpty))))
	checkVars(t, r, r.two(api.TAnd, same, r.two(api.TOr, r.name("a"), r.name("z10"))), "a", "ab", "b", "z", "z10")
	checkVars(t, r, r.two(api.TAt, r.name("z9"), r.two(api.TAt, r.name("z10"), r.name("z"))), "z", "z10", "z9")
	many, root := widest(80)
	checkVars(t, &row{many}, root, strings.Fields("xa xb xc xd xe xf xg xh xi xj xk xl xm xn xo xp xq xr xs xt xu xv xw xx xy xz")...)
}

func checkVars(t *testing.T, r *row, root int, want ...string) {
	t.Helper()
	if got := term.Vars(r.l, root); !slices.Equal(got, want) {
		t.Errorf("P4.2: Vars(%v, %d) = %q, want %q", r.l, root, got, want)
	}
}

func TestVarsOfInvalidTrees(t *testing.T) {
	r := &row{}
	sum := r.two(api.TAdd, r.name("a"), r.name("b"))
	for _, root := range []int{-1, 3, 4, math.MinInt, math.MaxInt} {
		checkVars(t, r, root)
	}
	checkVars(t, r, r.two(api.TAdd, sum, sum))
	checkVars(t, r, r.two(api.TAdd, sum, r.name("end")))
	checkVars(t, r, r.two(api.TAdd, sum, r.truth(2)))
	checkVars(t, r, r.two(api.TAdd, sum, -1))
	checkVars(t, r, r.two(api.TNot, sum, 0))
	checkVars(t, r, sum, "a", "b")
	checkVars(t, &row{append(r.l, make([]api.Term, 160-len(r.l))...)}, sum, "a", "b")
	checkVars(t, &row{append(r.l, make([]api.Term, 161-len(r.l))...)}, sum)
	at := sum
	for range 22 {
		at = r.one(api.TNot, at)
	}
	checkVars(t, r, at, "a", "b")
	checkVars(t, r, r.one(api.TNot, at))
}

func TestVarsAreNewMemory(t *testing.T) {
	r := &row{}
	sum := r.two(api.TAdd, r.name("a"), r.name("b"))
	got := term.Vars(r.l, sum)
	if len(got) == 2 {
		got[0], got[1] = "c", "d"
	}
	checkVars(t, r, sum, "a", "b")
}
