package kind_test

import (
	"math"
	"math/rand"
	"slices"
	"strings"
	"testing"

	"repartee/api"
	"repartee/data"
	"repartee/kind"
	"repartee/term"
)

// samples has valid values of each Kind, some of them at the bounds.
var samples = [6][]api.Value{
	api.Unit: {{}},
	api.Int:  {{Kind: api.Int}, {Kind: api.Int, N: 1}, {Kind: api.Int, N: -1}, {Kind: api.Int, N: 2}, {Kind: api.Int, N: 16}, {Kind: api.Int, N: math.MinInt64}, {Kind: api.Int, N: math.MaxInt64}},
	api.Bool: {{Kind: api.Bool}, {Kind: api.Bool, N: 1}},
	api.Text: {{Kind: api.Text}, {Kind: api.Text, S: "ab"}, {Kind: api.Text, S: strings.Repeat("\xff", 24)}},
	api.List: {{Kind: api.List}, {Kind: api.List, L: []int64{7, 8}}, {Kind: api.List, L: make([]int64, 15)}, {Kind: api.List, L: make([]int64, 16)}},
	api.Chan: {{Kind: api.Chan, S: "0/1"}, {Kind: api.Chan, S: "0/1", N: 4}},
}

// runtime are the errors that Eval may return where Of returns a Kind.
var runtime = []api.Errno{api.ErrTermDiv, api.ErrTermPlace, api.ErrTermLong}

// bound gives each entry of env a value of its Kind; one whose Kind is none of a value's, a value that is invalid.
func bound(env []api.Typing, pick func(n int) int) []api.Bind {
	var all []api.Bind
	for _, x := range env {
		v := api.Value{Kind: x.Sort.Kind}
		if 0 <= x.Sort.Kind && x.Sort.Kind < len(samples) {
			l := samples[x.Sort.Kind]
			v = l[pick(len(l))]
		}
		all = append(all, api.Bind{Name: x.Name, Value: v})
	}
	return all
}

// checkEval checks that Of tells what becomes of Eval with these values, as P5.2 says, and returns what Eval does.
func checkEval(t *testing.T, r *row, root int, env []api.Typing, values []api.Bind) api.Errno {
	t.Helper()
	k, e := kind.Of(r.l, root, env)
	v, f := term.Eval(r.l, root, values)
	switch {
	case e == api.OK && f == api.OK && v.Kind == k && data.May(v):
	case e == api.OK && slices.Contains(runtime, f):
	case e == api.ErrKindForm && f == api.ErrTermForm:
	case (e == api.ErrKindName || e == api.ErrKindMix) && f != api.OK && f != api.ErrTermForm:
		// That Eval has no value beside ErrKindMix either follows from the table that both have.
	default:
		t.Fatalf("P5.2: Of(%v, %d, %v) = %d, %d, but Eval with %v = %v, %d", r.l, root, env, k, e, values, v, f)
	}
	return f
}

func TestEvalOfEachOperationOnValuesOfEachKind(t *testing.T) {
	seen := map[api.Errno]int{}
	check := func(op int, values ...api.Value) {
		r := &row{}
		env, binds := []api.Typing{typed("x", values[0].Kind)}, []api.Bind{{Name: "x", Value: values[0]}}
		x := r.name("x")
		if len(values) == 1 {
			seen[checkEval(t, r, r.one(op, x), env, binds)]++
			return
		}
		env, binds = append(env, typed("y", values[1].Kind)), append(binds, api.Bind{Name: "y", Value: values[1]})
		root := r.two(op, x, r.name("y"))
		f := checkEval(t, r, root, env, binds)
		if _, e := kind.Of(r.l, root, env); (e == api.ErrKindMix) != (f == api.ErrTermKind) {
			t.Errorf("P5.1: Of operation %d on %v is %d, but Eval %d", op, values, e, f)
		}
		seen[f]++
	}
	all := slices.Concat(samples[:]...)
	for _, a := range all {
		for _, op := range oneKinds {
			check(op, a)
		}
		for _, b := range all {
			for _, op := range twoKinds {
				check(op, a, b)
			}
		}
	}
	for _, e := range append([]api.Errno{api.OK, api.ErrTermKind}, runtime...) {
		if seen[e] == 0 {
			t.Errorf("no Eval returned %d", e)
		}
	}
}

// An error that comes only at run time is none for Of, whichever the constants are.
func TestOfTreesWithoutAValue(t *testing.T) {
	for _, c := range []struct {
		add  func(r *row) int
		want int
		e    api.Errno
	}{
		{func(r *row) int { return r.two(api.TDiv, r.num(7), r.num(0)) }, api.Int, api.ErrTermDiv},
		{func(r *row) int { return r.two(api.TMod, r.num(7), r.num(0)) }, api.Int, api.ErrTermDiv},
		{func(r *row) int { return r.two(api.TAt, r.leaf(api.TEmpty), r.num(0)) }, api.Int, api.ErrTermPlace},
		{func(r *row) int { return r.two(api.TAt, r.name("l"), r.num(-1)) }, api.Int, api.ErrTermPlace},
		{func(r *row) int { return r.two(api.TJoin, r.text(strings.Repeat("x", 24)), r.text("x")) }, api.Text, api.ErrTermLong},
		{func(r *row) int { return r.two(api.TPush, r.name("l"), r.num(0)) }, api.List, api.ErrTermLong},
		{func(r *row) int { return r.two(api.TEq, r.two(api.TDiv, r.num(1), r.num(0)), r.num(1)) }, api.Bool, api.ErrTermDiv},
	} {
		r := &row{}
		root := c.add(r)
		checkOf(t, r, root, letterEnv(), c.want, api.OK)
		last := func(n int) int { return n - 1 }
		if f := checkEval(t, r, root, letterEnv(), bound(letterEnv(), last)); f != c.e {
			t.Errorf("P5.2: Eval(%v) returned %d, want %d", r.l, f, c.e)
		}
	}
}

func TestEvalOfVariablesWithTwoEntries(t *testing.T) {
	r := &row{}
	x := r.name("x")
	first := func(int) int { return 0 }
	for a := -1; a <= 6; a++ {
		for b := -1; b <= 6; b++ {
			env := []api.Typing{typed("y", b), typed("x", a), typed("x", b)}
			checkEval(t, r, x, env, bound(env, first))
			checkEval(t, r, x, env[:1], bound(env[:1], first))
		}
	}
}

func TestEvalOfRandomTrees(t *testing.T) {
	rnd := rand.New(rand.NewSource(7))
	seen, unnamed := map[api.Errno]int{}, 0
	for range 20000 {
		r := &row{}
		root := randomTree(r, rnd, letters[rnd.Intn(len(letters))], 1+rnd.Intn(6))
		env := letterEnv()
		rnd.Shuffle(len(env), func(i, j int) { env[i], env[j] = env[j], env[i] })
		env = append(env[:len(env)-rnd.Intn(2)], typed("i", rnd.Intn(6)))
		for range 3 {
			f := checkEval(t, r, root, env, bound(env, rnd.Intn))
			if _, e := kind.Of(r.l, root, env); e == api.ErrKindName {
				unnamed++
			}
			if len(r.l) > 4 {
				seen[f]++
			}
		}
	}
	for _, e := range append([]api.Errno{api.OK, api.ErrTermName, api.ErrTermKind}, runtime...) {
		if seen[e] < 500 {
			t.Errorf("only %d Evals of large trees returned %d", seen[e], e)
		}
	}
	if unnamed < 500 {
		t.Errorf("only %d trees had a variable without an entry", unnamed)
	}
}
