package kind_test

import (
	"math"
	"math/rand"
	"slices"
	"strings"
	"testing"

	"repartee/api"
	"repartee/kind"
)

// failing add trees that have no Kind, and tell the error of each.
var failing = []struct {
	add func(r *row) int
	e   api.Errno
}{
	{func(r *row) int { return r.name("nobody") }, api.ErrKindName},
	{func(r *row) int { return r.one(api.TNot, r.name("nobody")) }, api.ErrKindName},
	{func(r *row) int { return r.two(api.TAdd, r.name("b"), r.name("nobody")) }, api.ErrKindName},
	{func(r *row) int { return r.two(api.TEq, r.name("nobody"), r.name("odd")) }, api.ErrKindName},
	{func(r *row) int { return r.name("odd") }, api.ErrKindMix},
	{func(r *row) int { return r.one(api.TNot, r.num(1)) }, api.ErrKindMix},
	{func(r *row) int { return r.one(api.TLen, r.name("odd")) }, api.ErrKindMix},
	{func(r *row) int { return r.two(api.TEq, r.name("odd"), r.name("odd")) }, api.ErrKindMix},
	{func(r *row) int { return r.two(api.TEq, r.name("c"), r.name("c")) }, api.ErrKindMix},
	{func(r *row) int { return r.two(api.TJoin, r.one(api.TNot, r.name("t")), r.name("nobody")) }, api.ErrKindMix},
}

func TestOfTwoOperandsThatFail(t *testing.T) {
	for _, a := range failing {
		for _, b := range failing {
			for _, op := range twoKinds {
				r := &row{}
				left := a.add(r)
				checkOf(t, r, r.two(op, left, b.add(r)), letterEnv(), 0, a.e)
				// The order of the operands counts, and not that of their indices.
				right := b.add(r)
				checkOf(t, r, r.two(op, a.add(r), right), letterEnv(), 0, a.e)
				checkOf(t, r, r.one(api.TNot, r.two(op, a.add(r), b.add(r))), letterEnv(), 0, a.e)
			}
		}
	}
}

// An operand that fails is ahead of another that has a Kind, whether that is the required one or not.
func TestOfOneOperandThatFails(t *testing.T) {
	for _, a := range failing {
		for _, op := range oneKinds {
			r := &row{}
			checkOf(t, r, r.one(op, a.add(r)), letterEnv(), 0, a.e)
		}
		for _, x := range letters {
			for _, op := range twoKinds {
				r := &row{}
				checkOf(t, r, r.two(op, a.add(r), r.name(string(x))), letterEnv(), 0, a.e)
				checkOf(t, r, r.two(op, r.name(string(x)), a.add(r)), letterEnv(), 0, a.e)
			}
		}
	}
}

// An entry whose Kind is none of a value's does not fit any operand, nor is it the same as another.
func TestOfOperandsOfOddKinds(t *testing.T) {
	for _, k := range oddKinds {
		env := append(letterEnv(), typed("x", k), typed("y", k))
		r := &row{}
		for _, op := range oneKinds {
			checkOf(t, r, r.one(op, r.name("x")), env, 0, api.ErrKindMix)
		}
		for _, op := range twoKinds {
			r := &row{}
			checkOf(t, r, r.two(op, r.name("x"), r.name("y")), env, 0, api.ErrKindMix)
			for _, z := range letters {
				checkOf(t, r, r.two(op, r.name("x"), r.name(string(z))), env, 0, api.ErrKindMix)
				checkOf(t, r, r.two(op, r.name(string(z)), r.name("x")), env, 0, api.ErrKindMix)
			}
		}
	}
}

func TestOfEntriesThatTheTreeDoesNotHave(t *testing.T) {
	r := &row{}
	sum := r.two(api.TAdd, r.name("i"), r.name("j"))
	for _, k := range oddKinds {
		checkOf(t, r, sum, []api.Typing{typed("k", k), typed("j", 1), typed("", k), typed("i", 1), typed("end", k), typed("j", k)}, api.Int, api.OK)
		checkOf(t, r, sum, []api.Typing{typed("k", 1), typed("j", k), typed("", 1)}, 0, api.ErrKindName)
		checkOf(t, r, sum, []api.Typing{typed("k", 1), typed("j", k), typed("i", 2)}, 0, api.ErrKindMix)
	}
}

func TestOfInvalidTrees(t *testing.T) {
	env := append(letterEnv(), typed("end", 1), typed("", 1), typed("A", 1), typed("abcdefghijklm", 1), typed("abcdefghijkl", 1))
	for _, x := range []api.Term{
		{Kind: -1, L: -1, R: -1}, {Kind: 20, L: -1, R: -1}, {Kind: 20, L: 0, R: 1}, {Kind: math.MinInt, L: -1, R: -1}, {Kind: math.MaxInt, L: 0, R: 1}, {Kind: 1<<32 + 1, L: -1, R: -1},
		{Kind: api.TVar, Name: "end", L: -1, R: -1}, {Kind: api.TVar, L: -1, R: -1}, {Kind: api.TVar, Name: "A", L: -1, R: -1}, {Kind: api.TVar, Name: "abcdefghijklm", L: -1, R: -1},
		{Kind: api.TVar, Name: "i"}, {Kind: api.TVar, Name: "i", L: 0, R: -1}, {Kind: api.TVar, Name: "i", L: -1, R: 1}, {Kind: api.TVar, Name: "i", N: 1, L: -1, R: -1}, {Kind: api.TVar, Name: "i", Text: "i", L: -1, R: -1},
		{Kind: api.TNum, Name: "i", L: -1, R: -1}, {Kind: api.TNum, L: 0, R: 1}, {Kind: api.TBool, N: 2, L: -1, R: -1}, {Kind: api.TBool, N: -1, L: -1, R: -1},
		{Kind: api.TText, Text: strings.Repeat("x", 25), L: -1, R: -1}, {Kind: api.TText, N: 1, L: -1, R: -1}, {Kind: api.TEmpty, N: 1, L: -1, R: -1}, {Kind: api.TUnit, Text: "a", L: -1, R: -1},
		{Kind: api.TAdd, L: 0, R: 0}, {Kind: api.TAdd, L: 0, R: -1}, {Kind: api.TAdd, L: -1, R: 1}, {Kind: api.TAdd, L: -1, R: -1}, {Kind: api.TAdd, L: 0, R: 2}, {Kind: api.TAdd, L: 2, R: 1}, {Kind: api.TAdd, L: 0, R: 3}, {Kind: api.TAdd, L: math.MinInt, R: math.MaxInt}, {Kind: api.TAdd, Name: "i", L: 0, R: 1},
		{Kind: api.TLen, L: 0, R: 1}, {Kind: api.TNot, L: -1, R: -1}, {Kind: api.TNot, L: 2, R: -1}, {Kind: api.TNot, L: 3, R: -1}, {Kind: api.TNot, L: -1, R: 0}, {Kind: api.TNot, L: 0, R: -2},
	} {
		// By themselves, the operands have any Kind, or none, or the wrong one.
		for _, name := range []string{"i", "b", "t", "odd", "nobody"} {
			leaf := api.Term{Kind: api.TVar, Name: name, L: -1, R: -1}
			l := []api.Term{leaf, leaf, x, {Kind: api.TNot, L: 2, R: -1}, leaf, {Kind: api.TEq, L: 4, R: 3}}
			for _, root := range []int{2, 3, 5} {
				checkOf(t, &row{l}, root, env, 0, api.ErrKindForm)
				checkOf(t, &row{l}, root, nil, 0, api.ErrKindForm)
			}
		}
	}
	r := &row{}
	checkOf(t, r, r.name("abcdefghijkl"), env, api.Int, api.OK)
}

func TestOfRootsThatAreNoIndex(t *testing.T) {
	for _, n := range []int{0, 1, 2, 160} {
		l := make([]api.Term, n+2)
		for i := range l {
			l[i] = api.Term{Kind: api.TVar, Name: "i", L: -1, R: -1}
		}
		for _, root := range []int{math.MinInt, -n - 1, -2, -1, n, n + 1, n + 2, 1 << 32, math.MaxInt} {
			checkOf(t, &row{l[:n]}, root, letterEnv(), 0, api.ErrKindForm)
			checkOf(t, &row{l[:n]}, root, nil, 0, api.ErrKindForm)
		}
		for root := range n {
			checkOf(t, &row{l[:n]}, root, letterEnv(), api.Int, api.OK)
		}
	}
	checkOf(t, &row{nil}, 0, nil, 0, api.ErrKindForm)
}

func TestOfTermsOutsideTheTree(t *testing.T) {
	for _, x := range []api.Term{{}, {Kind: -1}, {Kind: 20, L: 1, R: 1}, {Kind: api.TVar, Name: "nobody", L: -1, R: -1}, {Kind: api.TVar, Name: "odd", L: -1, R: -1}, {Kind: api.TAdd, L: 1, R: 3}, {Kind: api.TJoin, L: 1, R: 3}, {Kind: api.TNot, L: 99, R: -7}} {
		l := []api.Term{x, {Kind: api.TVar, Name: "i", L: -1, R: -1}, x, {Kind: api.TVar, Name: "l", L: -1, R: -1}, x, {Kind: api.TPush, L: 3, R: 1}, x}
		checkOf(t, &row{l}, 5, letterEnv(), api.List, api.OK)
		checkOf(t, &row{l}, 5, letterEnv()[:4], 0, api.ErrKindName)
		checkOf(t, &row{l}, 1, letterEnv(), api.Int, api.OK)
	}
}

func TestOfTheDeepestTrees(t *testing.T) {
	r := &row{}
	not, list, sum := r.name("b"), r.name("l"), r.name("i")
	for deep := 2; deep <= 24; deep++ {
		not = r.one(api.TNot, not)
		checkOf(t, r, not, letterEnv(), api.Bool, api.OK)
		list = r.two(api.TPush, list, r.num(1))
		checkOf(t, r, list, letterEnv(), api.List, api.OK)
		sum = r.two(api.TAdd, r.num(1), sum)
		checkOf(t, r, sum, letterEnv(), api.Int, api.OK)
		for _, at := range []int{not, list, sum} {
			checkOf(t, r, at, nil, 0, api.ErrKindName)
			checkOf(t, r, at, []api.Typing{typed("b", 1), typed("l", 2), typed("i", 6)}, 0, api.ErrKindMix)
		}
	}
	checkOf(t, r, r.one(api.TNot, not), letterEnv(), 0, api.ErrKindForm)
	checkOf(t, r, r.two(api.TPush, list, r.num(1)), letterEnv(), 0, api.ErrKindForm)
	checkOf(t, r, r.two(api.TAdd, r.num(1), sum), letterEnv(), 0, api.ErrKindForm)
}

func TestOfTheLargestTrees(t *testing.T) {
	r := &row{}
	var open []int
	for range 80 {
		open = append(open, r.name("i"))
	}
	for len(open) > 1 {
		open = append(open[2:], r.two(api.TMul, open[0], open[1]))
	}
	root := open[0]
	checkOf(t, r, root, letterEnv(), api.Int, api.OK)
	for at := range 80 {
		one := &row{slices.Clone(r.l)}
		one.l[at].Name = "b"
		checkOf(t, one, root, letterEnv(), 0, api.ErrKindMix)
		one.l[at].Name = "nobody"
		checkOf(t, one, root, letterEnv(), 0, api.ErrKindName)
		// The other operand has a Kind, if not the required one, or it has none.
		one.l[at^1].Name = "b"
		checkOf(t, one, root, letterEnv(), 0, api.ErrKindName)
		one.l[at^1].Name = "odd"
		want := api.ErrKindMix
		if at^1 > at {
			want = api.ErrKindName
		}
		checkOf(t, one, root, letterEnv(), 0, want)
	}
	last := r.one(api.TNot, root)
	checkOf(t, r, last, letterEnv(), 0, api.ErrKindMix)
	if last != 159 {
		t.Fatal("the tree has", last+1, "terms")
	}
	checkOf(t, &row{append(r.l, api.Term{Kind: api.TUnit, L: -1, R: -1})}, root, letterEnv(), 0, api.ErrKindForm)
}

// randomTree adds a tree of at most this depth whose value has the Kind of the letter, but that now and then an operand has another one.
func randomTree(r *row, rnd *rand.Rand, want byte, deep int) int {
	if rnd.Intn(40) == 0 {
		want = letters[rnd.Intn(len(letters))]
	}
	var lines []string
	var ops []int
	for op, all := range table {
		for _, line := range strings.Fields(all) {
			operands, value, _ := strings.Cut(line, ">")
			if value[0] == want && len(operands) > 0 && deep > 1 {
				lines, ops = append(lines, operands), append(ops, op)
			}
		}
	}
	if len(lines) == 0 || rnd.Intn(8) == 0 {
		return randomLeaf(r, rnd, want)
	}
	i := rnd.Intn(len(lines))
	if len(lines[i]) == 1 {
		return r.one(ops[i], randomTree(r, rnd, lines[i][0], deep-1))
	}
	if rnd.Intn(2) == 0 {
		right := randomTree(r, rnd, lines[i][1], deep-1)
		return r.two(ops[i], randomTree(r, rnd, lines[i][0], deep-1), right)
	}
	left := randomTree(r, rnd, lines[i][0], deep-1)
	return r.two(ops[i], left, randomTree(r, rnd, lines[i][1], deep-1))
}

// randomLeaf adds a variable or a constant of the Kind of the letter.
func randomLeaf(r *row, rnd *rand.Rand, want byte) int {
	switch {
	case rnd.Intn(60) == 0:
		return r.name([]string{"nobody", "odd"}[rnd.Intn(2)])
	case want == 'c' || rnd.Intn(2) == 0:
		return r.name(string(want))
	case want == 'i':
		return r.num(int64(rnd.Intn(4)))
	case want == 'b':
		return r.truth(int64(rnd.Intn(2)))
	case want == 't':
		return r.text(strings.Repeat("x", rnd.Intn(25)))
	case want == 'l':
		return r.leaf(api.TEmpty)
	}
	return r.leaf(api.TUnit)
}

func TestOfRandomTrees(t *testing.T) {
	rnd := rand.New(rand.NewSource(5))
	seen := map[api.Errno]int{}
	for range 20000 {
		r := &row{}
		root := randomTree(r, rnd, letters[rnd.Intn(len(letters))], 1+rnd.Intn(6))
		e := checkSimple(t, r, root, letterEnv())
		if len(r.l) > 4 {
			seen[e]++
		}
		checkSimple(t, r, root, letterEnv()[:1+rnd.Intn(7)])
	}
	for _, e := range []api.Errno{api.OK, api.ErrKindName, api.ErrKindMix} {
		if seen[e] < 300 {
			t.Errorf("only %d of the large trees had %d", seen[e], e)
		}
	}
}

// randomTerms returns terms of which most trees are invalid or have no Kind.
func randomTerms(rnd *rand.Rand) []api.Term {
	l := make([]api.Term, 1+rnd.Intn(6))
	for i := range l {
		l[i] = api.Term{Kind: rnd.Intn(22) - 1, L: rnd.Intn(i+2) - 1, R: rnd.Intn(i+2) - 1}
		if rnd.Intn(2) == 0 {
			l[i] = api.Term{Kind: api.TVar, Name: letters[i%6 : i%6+1], L: -1, R: -1}
		}
	}
	return l
}

func TestOfAnyTermsReturnsNoKindBesideAnError(t *testing.T) {
	rnd := rand.New(rand.NewSource(6))
	for range 50000 {
		l := randomTerms(rnd)
		for root := range l {
			if k, e := kind.Of(l, root, letterEnv()); k < 0 || k > 5 || e != api.OK && k != 0 {
				t.Fatalf("P0.3: Of(%v, %d) = %d, %d", l, root, k, e)
			}
		}
	}
}
