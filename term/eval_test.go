package term_test

import (
	"math"
	"math/big"
	"math/rand"
	"slices"
	"strings"
	"testing"

	"repartee/api"
	"repartee/data"
	"repartee/term"
)

const (
	least    = math.MinInt64
	greatest = math.MaxInt64
)

func num(n int64) api.Value           { return api.Value{Kind: api.Int, N: n} }
func truth(n int64) api.Value         { return api.Value{Kind: api.Bool, N: n} }
func text(s string) api.Value         { return api.Value{Kind: api.Text, S: s} }
func list(l ...int64) api.Value       { return api.Value{Kind: api.List, L: l} }
func end(s string, n int64) api.Value { return api.Value{Kind: api.Chan, S: s, N: n} }

// xs is a text of n bytes, and zeros a list of n numbers.
func xs(n int) api.Value    { return text(strings.Repeat("x", n)) }
func zeros(n int) api.Value { return list(make([]int64, n)...) }

// samples are valid values of each Kind, some of them at the bounds.
var samples = []api.Value{
	{}, truth(0), truth(1), end("0/1", 0), end("0/1", 4),
	num(least), num(least + 1), num(-7), num(-2), num(-1), num(0), num(1), num(2), num(3), num(7), num(15), num(16), num(1 << 32), num(1 << 62), num(greatest - 1), num(greatest),
	text(""), text("a"), text("b"), text("\x00\xff"), text("é"), xs(12), xs(23), xs(24),
	list(), list(0), list(5), list(5, 6), list(6, 5), list(least, greatest), zeros(15), zeros(16),
}

// operandKinds has, for each kind of term, the Kinds that the table of P4.3 requires of its operands; those of TEq and TLen depend on the values.
func operandKinds(kind int, a, b api.Value) []int {
	switch kind {
	case api.TEq:
		if a.Kind == api.Chan {
			return []int{-1, -1}
		}
		return []int{a.Kind, a.Kind}
	case api.TAnd, api.TOr:
		return []int{api.Bool, api.Bool}
	case api.TNot:
		return []int{api.Bool}
	case api.TLen:
		if a.Kind == api.List {
			return []int{api.List}
		}
		return []int{api.Text}
	case api.TAt, api.TPush:
		return []int{api.List, api.Int}
	case api.TJoin:
		return []int{api.Text, api.Text}
	}
	return []int{api.Int, api.Int}
}

// simpleApply returns what the table of P4.3 says of a term of this kind; its numbers are large ones until the end. A term with one operand has a.
func simpleApply(kind int, a, b api.Value) (api.Value, api.Errno) {
	for i, k := range operandKinds(kind, a, b) {
		if []api.Value{a, b}[i].Kind != k {
			return api.Value{}, api.ErrTermKind
		}
	}
	x, y := big.NewInt(a.N), big.NewInt(b.N)
	switch kind {
	case api.TAdd:
		return wrapped(x.Add(x, y)), api.OK
	case api.TSub:
		return wrapped(x.Sub(x, y)), api.OK
	case api.TMul:
		return wrapped(x.Mul(x, y)), api.OK
	case api.TDiv, api.TMod:
		if y.Sign() == 0 {
			return api.Value{}, api.ErrTermDiv
		}
		q, rest := new(big.Int).QuoRem(x, y, new(big.Int))
		return wrapped(map[int]*big.Int{api.TDiv: q, api.TMod: rest}[kind]), api.OK
	case api.TEq:
		return yes(a.N == b.N && a.S == b.S && slices.Equal(a.L, b.L)), api.OK
	case api.TLess:
		return yes(x.Cmp(y) < 0), api.OK
	case api.TAnd:
		return truth(a.N * b.N), api.OK
	case api.TOr:
		return truth(max(a.N, b.N)), api.OK
	case api.TNot:
		return truth(1 - a.N), api.OK
	}
	return simpleLong(kind, a, b)
}

// simpleLong is simpleApply for the terms that work on texts and lists.
func simpleLong(kind int, a, b api.Value) (api.Value, api.Errno) {
	v, e := api.Value{}, api.ErrTermLong
	switch kind {
	case api.TLen:
		return num(int64(len([]byte(a.S)) + len(a.L))), api.OK
	case api.TAt:
		e = api.ErrTermPlace
		for i, n := range a.L {
			if int64(i) == b.N {
				v, e = num(n), api.OK
			}
		}
	case api.TPush:
		if len(a.L) < 16 {
			v, e = list(append(slices.Clone(a.L), b.N)...), api.OK
		}
	case api.TJoin:
		if s := a.S + b.S; len(s) <= 24 {
			v, e = text(s), api.OK
		}
	}
	return v, e
}

func yes(b bool) api.Value {
	if b {
		return truth(1)
	}
	return truth(0)
}

// wrapped returns the number that differs from x by a multiple of 2^64.
func wrapped(x *big.Int) api.Value {
	size := new(big.Int).Lsh(big.NewInt(1), 64)
	rest := new(big.Int).Mod(x, size)
	return num(int64(rest.Uint64()))
}

func simpleEval(l []api.Term, at int, env []api.Bind) (api.Value, api.Errno) {
	switch x := l[at]; x.Kind {
	case api.TVar:
		for _, b := range env {
			if b.Name == x.Name && !data.May(b.Value) {
				return api.Value{}, api.ErrTermKind
			}
			if b.Name == x.Name {
				return b.Value, api.OK
			}
		}
		return api.Value{}, api.ErrTermName
	case api.TNum, api.TBool, api.TText, api.TEmpty, api.TUnit:
		kinds := map[int]int{api.TNum: api.Int, api.TBool: api.Bool, api.TText: api.Text, api.TEmpty: api.List, api.TUnit: api.Unit}
		return api.Value{Kind: kinds[x.Kind], N: x.N, S: x.Text}, api.OK
	}
	a, e := simpleEval(l, l[at].L, env)
	if e != api.OK {
		return api.Value{}, e
	}
	if l[at].R == -1 {
		return simpleApply(l[at].Kind, a, api.Value{})
	}
	b, e := simpleEval(l, l[at].R, env)
	if e != api.OK {
		return api.Value{}, e
	}
	return simpleApply(l[at].Kind, a, b)
}

// checkEval checks that the tree has this value or error, and that the arguments stay as they are.
func checkEval(t *testing.T, r *row, root int, env []api.Bind, want api.Value, refused api.Errno) {
	t.Helper()
	terms, binds := slices.Clone(r.l), slices.Clone(env)
	for i := range binds {
		binds[i].Value.L = slices.Clone(env[i].Value.L)
	}
	v, e := term.Eval(r.l, root, env)
	if e != refused || !data.Same(v, want) {
		t.Fatalf("P4.3: Eval(%v, %d, %v) = %v, %d, want %v, %d", r.l, root, env, v, e, want, refused)
	}
	for i := range v.L {
		v.L[i] ^= 1
	}
	same := func(a, b api.Bind) bool { return a.Name == b.Name && data.Same(a.Value, b.Value) }
	if !slices.Equal(r.l, terms) || !slices.EqualFunc(env, binds, same) {
		t.Fatalf("P0.4: Eval changed %v and %v to %v and %v, or its value shares memory with them", terms, binds, r.l, env)
	}
}

// constant adds the term that denotes v, or the variable with this name if no term does.
func (r *row) constant(v api.Value, name string) int {
	switch {
	case v.Kind == api.Unit:
		return r.leaf(api.TUnit)
	case v.Kind == api.Int:
		return r.num(v.N)
	case v.Kind == api.Bool:
		return r.truth(v.N)
	case v.Kind == api.Text:
		return r.text(v.S)
	case v.Kind == api.List && len(v.L) == 0:
		return r.leaf(api.TEmpty)
	}
	return r.name(name)
}

func TestEvalOfEachValue(t *testing.T) {
	for _, v := range samples {
		env := []api.Bind{{Name: "x", Value: v}}
		r := &row{}
		x := r.name("x")
		checkEval(t, r, x, env, v, api.OK)
		checkEval(t, r, r.constant(v, "x"), env, v, api.OK)
		checkEval(t, r, x, nil, api.Value{}, api.ErrTermName)
	}
}

func TestEvalOfEachOperationOnEachPair(t *testing.T) {
	for _, a := range samples {
		for _, kind := range oneKinds {
			env := []api.Bind{{Name: "x", Value: a}}
			want, refused := simpleApply(kind, a, api.Value{})
			r := &row{}
			checkEval(t, r, r.one(kind, r.name("x")), env, want, refused)
			checkEval(t, r, r.one(kind, r.constant(a, "x")), env, want, refused)
		}
		for _, b := range samples {
			for _, kind := range twoKinds {
				env := []api.Bind{{Name: "y", Value: b}, {Name: "x", Value: a}}
				want, refused := simpleApply(kind, a, b)
				r := &row{}
				checkEval(t, r, r.two(kind, r.name("x"), r.name("y")), env, want, refused)
				right := r.constant(b, "y")
				checkEval(t, r, r.two(kind, r.constant(a, "x"), right), env, want, refused)
			}
		}
	}
}

func TestEvalOfNumbers(t *testing.T) {
	for _, c := range []struct {
		kind    int
		a, b    int64
		want    api.Value
		refused api.Errno
	}{
		{api.TAdd, 2, 3, num(5), 0}, {api.TAdd, greatest, 1, num(least), 0}, {api.TAdd, least, least, num(0), 0}, {api.TAdd, greatest, greatest, num(-2), 0}, {api.TAdd, least, greatest, num(-1), 0},
		{api.TSub, 2, 3, num(-1), 0}, {api.TSub, least, 1, num(greatest), 0}, {api.TSub, 0, least, num(least), 0}, {api.TSub, greatest, least, num(-1), 0}, {api.TSub, least, least, num(0), 0},
		{api.TMul, -2, 3, num(-6), 0}, {api.TMul, least, -1, num(least), 0}, {api.TMul, least, 2, num(0), 0}, {api.TMul, greatest, greatest, num(1), 0}, {api.TMul, greatest, 2, num(-2), 0}, {api.TMul, 1 << 32, 1 << 32, num(0), 0},
		{api.TDiv, 7, 2, num(3), 0}, {api.TDiv, -7, 2, num(-3), 0}, {api.TDiv, 7, -2, num(-3), 0}, {api.TDiv, -7, -2, num(3), 0}, {api.TDiv, 0, 7, num(0), 0}, {api.TDiv, least, -1, num(least), 0}, {api.TDiv, least, 1, num(least), 0}, {api.TDiv, least, greatest, num(-1), 0}, {api.TDiv, greatest, least, num(0), 0}, {api.TDiv, greatest, -1, num(-greatest), 0},
		{api.TDiv, 7, 0, api.Value{}, api.ErrTermDiv}, {api.TDiv, 0, 0, api.Value{}, api.ErrTermDiv}, {api.TDiv, least, 0, api.Value{}, api.ErrTermDiv},
		{api.TMod, 7, 2, num(1), 0}, {api.TMod, -7, 2, num(-1), 0}, {api.TMod, 7, -2, num(1), 0}, {api.TMod, -7, -2, num(-1), 0}, {api.TMod, 6, 2, num(0), 0}, {api.TMod, least, -1, num(0), 0}, {api.TMod, least, greatest, num(-1), 0}, {api.TMod, greatest, least, num(greatest), 0},
		{api.TMod, 7, 0, api.Value{}, api.ErrTermDiv}, {api.TMod, 0, 0, api.Value{}, api.ErrTermDiv}, {api.TMod, least, 0, api.Value{}, api.ErrTermDiv},
		{api.TEq, 3, 3, truth(1), 0}, {api.TEq, 3, 4, truth(0), 0}, {api.TEq, least, least, truth(1), 0}, {api.TEq, least, greatest, truth(0), 0}, {api.TEq, 0, 1 << 32, truth(0), 0},
		{api.TLess, 3, 4, truth(1), 0}, {api.TLess, 4, 4, truth(0), 0}, {api.TLess, 5, 4, truth(0), 0}, {api.TLess, least, greatest, truth(1), 0}, {api.TLess, greatest, least, truth(0), 0}, {api.TLess, -1, 0, truth(1), 0},
	} {
		r := &row{}
		b := r.num(c.b)
		checkEval(t, &row{append(r.l, api.Term{Kind: api.TNum, N: c.a, L: -1, R: -1}, api.Term{Kind: c.kind, L: 1, R: b})}, 2, nil, c.want, c.refused)
	}
}

func TestEvalOfOtherOperations(t *testing.T) {
	for _, c := range []struct {
		kind    int
		a, b    api.Value
		want    api.Value
		refused api.Errno
	}{
		{api.TAnd, truth(0), truth(0), truth(0), 0}, {api.TAnd, truth(0), truth(1), truth(0), 0}, {api.TAnd, truth(1), truth(0), truth(0), 0}, {api.TAnd, truth(1), truth(1), truth(1), 0},
		{api.TOr, truth(0), truth(0), truth(0), 0}, {api.TOr, truth(0), truth(1), truth(1), 0}, {api.TOr, truth(1), truth(0), truth(1), 0}, {api.TOr, truth(1), truth(1), truth(1), 0},
		{api.TEq, api.Value{}, api.Value{}, truth(1), 0}, {api.TEq, truth(0), truth(0), truth(1), 0}, {api.TEq, truth(0), truth(1), truth(0), 0}, {api.TEq, text("a"), text("a"), truth(1), 0}, {api.TEq, text("a"), text("A"), truth(0), 0}, {api.TEq, text(""), text("\x00"), truth(0), 0}, {api.TEq, list(), list(), truth(1), 0}, {api.TEq, list(1, 2), list(1, 2), truth(1), 0}, {api.TEq, list(1, 2), list(2, 1), truth(0), 0}, {api.TEq, list(1, 2), list(1), truth(0), 0}, {api.TEq, list(), list(0), truth(0), 0},
		{api.TEq, num(0), truth(0), api.Value{}, api.ErrTermKind}, {api.TEq, api.Value{}, num(0), api.Value{}, api.ErrTermKind}, {api.TEq, text(""), list(), api.Value{}, api.ErrTermKind}, {api.TEq, end("a", 0), end("a", 0), api.Value{}, api.ErrTermKind}, {api.TEq, end("a", 0), text("a"), api.Value{}, api.ErrTermKind}, {api.TEq, num(0), end("a", 0), api.Value{}, api.ErrTermKind},
		{api.TAt, list(5, 6), num(0), num(5), 0}, {api.TAt, list(5, 6), num(1), num(6), 0}, {api.TAt, list(least), num(0), num(least), 0}, {api.TAt, zeros(16), num(15), num(0), 0},
		{api.TAt, list(5, 6), num(2), api.Value{}, api.ErrTermPlace}, {api.TAt, list(5, 6), num(-1), api.Value{}, api.ErrTermPlace}, {api.TAt, list(), num(0), api.Value{}, api.ErrTermPlace}, {api.TAt, zeros(16), num(16), api.Value{}, api.ErrTermPlace}, {api.TAt, list(5), num(1 << 32), api.Value{}, api.ErrTermPlace}, {api.TAt, list(5), num(least), api.Value{}, api.ErrTermPlace}, {api.TAt, list(5), num(greatest), api.Value{}, api.ErrTermPlace},
		{api.TPush, list(), num(least), list(least), 0}, {api.TPush, list(5, 6), num(greatest), list(5, 6, greatest), 0}, {api.TPush, zeros(15), num(0), zeros(16), 0}, {api.TPush, zeros(16), num(0), api.Value{}, api.ErrTermLong},
		{api.TJoin, text(""), text(""), text(""), 0}, {api.TJoin, text("a"), text("bc"), text("abc"), 0}, {api.TJoin, text("bc"), text("a"), text("bca"), 0}, {api.TJoin, text("\xc3"), text("\xa9"), text("é"), 0},
		{api.TJoin, xs(20), xs(4), xs(24), 0}, {api.TJoin, xs(24), text(""), xs(24), 0}, {api.TJoin, text(""), xs(24), xs(24), 0}, {api.TJoin, xs(20), xs(5), api.Value{}, api.ErrTermLong}, {api.TJoin, xs(24), xs(1), api.Value{}, api.ErrTermLong}, {api.TJoin, xs(1), xs(24), api.Value{}, api.ErrTermLong}, {api.TJoin, xs(24), xs(24), api.Value{}, api.ErrTermLong},
		{api.TNot, truth(0), api.Value{}, truth(1), 0}, {api.TNot, truth(1), api.Value{}, truth(0), 0}, {api.TNot, num(0), api.Value{}, api.Value{}, api.ErrTermKind},
		{api.TLen, text(""), api.Value{}, num(0), 0}, {api.TLen, text("é"), api.Value{}, num(2), 0}, {api.TLen, xs(24), api.Value{}, num(24), 0}, {api.TLen, list(), api.Value{}, num(0), 0}, {api.TLen, list(9), api.Value{}, num(1), 0}, {api.TLen, zeros(16), api.Value{}, num(16), 0}, {api.TLen, num(1), api.Value{}, api.Value{}, api.ErrTermKind}, {api.TLen, api.Value{}, api.Value{}, api.Value{}, api.ErrTermKind}, {api.TLen, end("a", 1), api.Value{}, api.Value{}, api.ErrTermKind},
	} {
		r := &row{}
		r.name("b")
		r.name("a")
		root := api.Term{Kind: c.kind, L: 1, R: 0}
		if slices.Contains(oneKinds, c.kind) {
			root.R = -1
		}
		checkEval(t, &row{append(r.l, root)}, 2, []api.Bind{{Name: "a", Value: c.a}, {Name: "b", Value: c.b}}, c.want, c.refused)
	}
}

// wrongKinds have two operands of which one has a wrong Kind, and another error would apply if it had not.
var wrongKinds = []struct {
	kind int
	a, b api.Value
}{
	{api.TDiv, truth(1), num(0)}, {api.TMod, text("a"), num(0)}, {api.TDiv, num(1), truth(0)}, {api.TMod, num(1), api.Value{}},
	{api.TAt, text("a"), num(-1)}, {api.TAt, list(), truth(1)}, {api.TAt, num(0), num(0)}, {api.TAt, num(0), list(5)},
	{api.TPush, zeros(16), truth(1)}, {api.TPush, zeros(16), zeros(16)}, {api.TPush, xs(24), num(1)}, {api.TPush, num(1), list()},
	{api.TJoin, xs(24), num(1)}, {api.TJoin, num(1), xs(24)}, {api.TJoin, zeros(16), zeros(16)}, {api.TJoin, xs(24), end("a", 1)},
}

func TestEvalPutsKindsAheadOfOtherErrors(t *testing.T) {
	for _, c := range wrongKinds {
		r := &row{}
		root := r.two(c.kind, r.name("a"), r.name("b"))
		checkEval(t, r, root, []api.Bind{{Name: "a", Value: c.a}, {Name: "b", Value: c.b}}, api.Value{}, api.ErrTermKind)
	}
}

// failing have functions that add a tree without a value, and the error that it has: all that there are beside ErrTermForm.
var failing = []struct {
	add func(r *row) int
	e   api.Errno
}{
	{func(r *row) int { return r.name("nobody") }, api.ErrTermName},
	{func(r *row) int { return r.name("bad") }, api.ErrTermKind},
	{func(r *row) int { return r.one(api.TNot, r.num(1)) }, api.ErrTermKind},
	{func(r *row) int { return r.two(api.TDiv, r.num(1), r.num(0)) }, api.ErrTermDiv},
	{func(r *row) int { return r.two(api.TMod, r.num(1), r.num(0)) }, api.ErrTermDiv},
	{func(r *row) int { return r.two(api.TAt, r.leaf(api.TEmpty), r.num(0)) }, api.ErrTermPlace},
	{func(r *row) int { return r.two(api.TPush, r.name("full"), r.num(0)) }, api.ErrTermLong},
	{func(r *row) int { return r.two(api.TJoin, r.text(strings.Repeat("x", 24)), r.text("x")) }, api.ErrTermLong},
}

func TestEvalReturnsTheFirstError(t *testing.T) {
	env := []api.Bind{{Name: "bad", Value: truth(2)}, {Name: "full", Value: zeros(16)}, {Name: "end", Value: num(1)}}
	for _, a := range failing {
		r := &row{}
		for _, kind := range oneKinds {
			checkEval(t, r, r.one(kind, a.add(r)), env, api.Value{}, a.e)
		}
		for _, kind := range twoKinds {
			r := &row{}
			for _, b := range failing {
				// The order of the operands counts, and not that of their indices.
				right := b.add(r)
				checkEval(t, r, r.two(kind, a.add(r), right), env, api.Value{}, a.e)
			}
			checkEval(t, r, r.two(kind, a.add(r), r.name("end")), env, api.Value{}, api.ErrTermForm)
			for _, v := range samples {
				r := &row{}
				good := r.constant(v, "full")
				checkEval(t, r, r.two(kind, good, a.add(r)), env, api.Value{}, a.e)
				good = r.constant(v, "full")
				checkEval(t, r, r.two(kind, a.add(r), good), env, api.Value{}, a.e)
			}
		}
	}
}

func TestEvalOfConjunctionsAndDisjunctionsTakesBothOperands(t *testing.T) {
	for _, left := range []int64{0, 1} {
		for _, kind := range []int{api.TAnd, api.TOr} {
			r := &row{}
			both := r.two(kind, r.truth(left), r.two(api.TEq, r.num(1), r.two(api.TDiv, r.num(1), r.num(0))))
			checkEval(t, r, both, nil, api.Value{}, api.ErrTermDiv)
			both = r.two(kind, r.truth(left), r.num(1))
			checkEval(t, r, both, nil, api.Value{}, api.ErrTermKind)
		}
	}
}

func TestEvalOfVariables(t *testing.T) {
	r := &row{}
	x := r.name("x")
	env := func(l ...api.Bind) []api.Bind { return l }
	checkEval(t, r, x, nil, api.Value{}, api.ErrTermName)
	checkEval(t, r, x, env(api.Bind{Name: "y", Value: num(1)}, api.Bind{Name: "", Value: num(2)}, api.Bind{Name: "xx", Value: num(3)}), api.Value{}, api.ErrTermName)
	checkEval(t, r, x, env(api.Bind{Name: "x", Value: num(1)}, api.Bind{Name: "x", Value: num(2)}), num(1), api.OK)
	checkEval(t, r, x, env(api.Bind{Name: "y", Value: num(1)}, api.Bind{Name: "x", Value: num(2)}, api.Bind{Name: "x", Value: num(3)}), num(2), api.OK)
	for _, bad := range []api.Value{{N: 1}, {S: "a"}, {Kind: api.Int, S: "a"}, truth(2), truth(-1), xs(25), zeros(17), {Kind: api.List, N: 1}, end("", 0), end("a", 5), end("a", -1), {Kind: -1}, {Kind: 6}} {
		first := env(api.Bind{Name: "x", Value: bad}, api.Bind{Name: "x", Value: num(2)})
		checkEval(t, r, x, first, api.Value{}, api.ErrTermKind)
		checkEval(t, r, x, env(first[1], first[0]), num(2), api.OK)
		same := []api.Term{r.l[0], r.l[0], {Kind: api.TEq, L: 0, R: 1}, {Kind: api.TLen, L: 0, R: -1}}
		checkEval(t, &row{same}, 2, first, api.Value{}, api.ErrTermKind)
		checkEval(t, &row{same}, 3, first, api.Value{}, api.ErrTermKind)
	}
	beyond := env(api.Bind{Name: "y", Value: num(1)}, api.Bind{Name: "x", Value: num(2)})
	checkEval(t, r, x, beyond[:1], api.Value{}, api.ErrTermName)
}

func TestEvalOfInvalidTrees(t *testing.T) {
	env := []api.Bind{{Name: "x", Value: num(1)}, {Name: "end", Value: num(1)}, {Name: "", Value: num(1)}}
	r := &row{}
	x := r.name("x")
	for _, root := range []int{-1, 1, math.MinInt, math.MaxInt} {
		checkEval(t, r, root, env, api.Value{}, api.ErrTermForm)
	}
	for _, bad := range []int{r.name("end"), r.name(""), r.truth(2), r.text(strings.Repeat("x", 25)), r.leaf(20), r.leaf(-1), r.one(api.TNot, -1), r.two(api.TAdd, x, x), r.two(api.TLen, x, 0), r.one(api.TAdd, x), r.leaf(api.TAdd), r.put(api.Term{Kind: api.TUnit})} {
		checkEval(t, r, bad, env, api.Value{}, api.ErrTermForm)
	}
	checkEval(t, r, x, env, num(1), api.OK)
	checkEval(t, &row{append(r.l, make([]api.Term, 160)...)}, x, env, api.Value{}, api.ErrTermForm)
}

func TestEvalOfTheExample(t *testing.T) {
	l := []api.Term{{Kind: api.TNum, N: 7, L: -1, R: -1}, {Kind: api.TNum, L: -1, R: -1}, {Kind: api.TDiv, L: 0, R: 1}}
	checkEval(t, &row{l}, 2, nil, api.Value{}, api.ErrTermDiv)
}

func TestEvalOfTheLargestTrees(t *testing.T) {
	l, root := widest(80)
	var env []api.Bind
	want := int64(0)
	for i := range 26 {
		env = append(env, api.Bind{Name: "x" + string(rune('a'+i)), Value: num(int64(i * i))})
	}
	for i := range 80 {
		want += int64(i % 26 * (i % 26))
	}
	checkEval(t, &row{l}, root, env, num(want), api.OK)

	r := &row{}
	at := r.truth(1)
	for i := range 23 {
		at = r.one(api.TNot, at)
		checkEval(t, r, at, nil, truth(int64(i%2)), api.OK)
	}
	checkEval(t, r, r.one(api.TNot, at), nil, api.Value{}, api.ErrTermForm)
}

func TestEvalOfTheLongestTextsAndLists(t *testing.T) {
	r := &row{}
	at, want := r.leaf(api.TEmpty), []int64{}
	for i := range 17 {
		checkEval(t, r, at, nil, list(want...), api.OK)
		at = r.two(api.TPush, at, r.num(int64(i)))
		want = append(want, int64(i))
	}
	checkEval(t, r, at, nil, api.Value{}, api.ErrTermLong)

	r = &row{}
	at = r.text("")
	for i := range 12 {
		at = r.two(api.TJoin, r.text("ab"), at)
		checkEval(t, r, at, nil, text(strings.Repeat("ab", i+1)), api.OK)
	}
	checkEval(t, r, r.two(api.TJoin, at, r.text("")), nil, text(strings.Repeat("ab", 12)), api.OK)
	checkEval(t, r, r.two(api.TJoin, at, r.text("c")), nil, api.Value{}, api.ErrTermLong)
}

// Numbers behind a list of the env must be left alone, and no list may be told twice.
func TestEvalReturnsNewMemory(t *testing.T) {
	room := []int64{5, 6, 77, 78}
	env := []api.Bind{{Name: "x", Value: list(room[:2]...)}, {Name: "y", Value: list(room[:0]...)}}
	r := &row{}
	x := r.name("x")
	push := r.two(api.TPush, x, r.num(9))
	again := r.two(api.TPush, r.name("y"), r.num(8))
	for range 2 {
		checkEval(t, r, x, env, list(5, 6), api.OK)
		checkEval(t, r, push, env, list(5, 6, 9), api.OK)
		checkEval(t, r, again, env, list(8), api.OK)
	}
	a, _ := term.Eval(r.l, x, env)
	b, _ := term.Eval(r.l, x, env)
	for i := range a.L {
		a.L[i] = 0
	}
	_, _ = append(a.L, 1), append(b.L, 1)
	if !data.Same(b, list(5, 6)) || !slices.Equal(room, []int64{5, 6, 77, 78}) {
		t.Error("P0.4: a value shares memory:", a, b, room)
	}
}

// randomTree adds a tree that has at most this depth, mostly with operands that fit, and returns its root; kind is the Kind of its value.
func (r *row) randomTree(from *rand.Rand, kind, deep int) int {
	if from.Intn(40) == 0 {
		kind = from.Intn(6)
	}
	tree := func(kind int) int { return r.randomTree(from, kind, deep-1) }
	two := func(term, a, b int) int {
		left := tree(a)
		return r.two(term, left, tree(b))
	}
	if deep <= 1 || from.Intn(6) == 0 {
		return r.randomLeaf(from, kind)
	}
	switch kind {
	case api.Int:
		switch k := api.TAdd + from.Intn(7); k {
		case api.TAdd + 5:
			return r.one(api.TLen, tree(api.Text+from.Intn(2)))
		case api.TAdd + 6:
			return two(api.TAt, api.List, api.Int)
		default:
			return two(k, api.Int, api.Int)
		}
	case api.Bool:
		switch from.Intn(4) {
		case 0:
			k := from.Intn(5)
			return two(api.TEq, k, k)
		case 1:
			return two(api.TLess, api.Int, api.Int)
		case 2:
			return r.one(api.TNot, tree(api.Bool))
		}
		return two(api.TAnd+from.Intn(2), api.Bool, api.Bool)
	case api.Text:
		return two(api.TJoin, api.Text, api.Text)
	case api.List:
		return two(api.TPush, api.List, api.Int)
	}
	return r.randomLeaf(from, kind)
}

func (r *row) randomLeaf(from *rand.Rand, kind int) int {
	var fit []api.Value
	for _, v := range samples {
		if v.Kind == kind {
			fit = append(fit, v)
		}
	}
	// The variables are named by their Kinds.
	name := string(rune('a'+kind)) + string(rune('a'+from.Intn(4)))
	if from.Intn(2) == 0 {
		return r.name(name)
	}
	return r.constant(fit[from.Intn(len(fit))], name)
}

// randomEnv binds the variables of randomLeaf, mostly to values of their Kinds; some are not bound, and some are bound more than once.
func randomEnv(from *rand.Rand) []api.Bind {
	var env []api.Bind
	for range 60 {
		v := samples[from.Intn(len(samples))]
		kind := v.Kind
		switch from.Intn(60) {
		case 0:
			kind = from.Intn(6)
		case 1:
			v.N = 99
		}
		env = append(env, api.Bind{Name: string(rune('a'+kind)) + string(rune('a'+from.Intn(4))), Value: v})
	}
	return env
}

func TestEvalOfRandomTrees(t *testing.T) {
	from := rand.New(rand.NewSource(44))
	count := map[api.Errno]int{}
	for range 20000 {
		r, env := &row{}, randomEnv(from)
		root := r.randomTree(from, from.Intn(6), 6)
		if len(r.l) > 160 {
			continue
		}
		want, refused := simpleEval(r.l, root, env)
		checkEval(t, r, root, env, want, refused)
		checkUnrelated(t, from, r, root, env, want, refused)
		count[refused]++
	}
	for _, e := range []api.Errno{api.OK, api.ErrTermName, api.ErrTermKind, api.ErrTermDiv, api.ErrTermPlace, api.ErrTermLong} {
		if count[e] < 100 {
			t.Errorf("only %d trees came to %d", count[e], e)
		}
	}
}

// checkUnrelated checks that entries of env with names that are not in Vars have no effect, wherever they stand.
func checkUnrelated(t *testing.T, from *rand.Rand, r *row, root int, env []api.Bind, want api.Value, refused api.Errno) {
	t.Helper()
	vars := term.Vars(r.l, root)
	related := []api.Bind{}
	for _, b := range env {
		if slices.Contains(vars, b.Name) {
			related = append(related, b)
		}
	}
	checkEval(t, r, root, related, want, refused)
	more := slices.Clone(related)
	for _, name := range []string{"", "A", "end", "zz", "aaa", "a", "other"} {
		b := api.Bind{Name: name, Value: samples[from.Intn(len(samples))]}
		if from.Intn(2) == 0 {
			b.Value.Kind = 6
		}
		more = slices.Insert(more, from.Intn(len(more)+1), b)
	}
	checkEval(t, r, root, more, want, refused)
}

func TestEvalWithUnrelatedEntries(t *testing.T) {
	r := &row{}
	sum := r.two(api.TAdd, r.name("a"), r.name("b"))
	r.two(api.TAdd, sum, r.name("c"))
	a, b := api.Bind{Name: "a", Value: num(1)}, api.Bind{Name: "b", Value: num(2)}
	for _, other := range []api.Bind{{Name: "c", Value: num(3)}, {Name: "c", Value: truth(2)}, {Name: "", Value: num(3)}, {Name: "ab", Value: xs(99)}, {Name: "A", Value: end("", 9)}, {}} {
		for _, env := range [][]api.Bind{{other, a, b}, {a, other, b}, {a, b, other}, {other, other, b, other, a, other}} {
			checkEval(t, r, sum, env, num(3), api.OK)
		}
		checkEval(t, r, sum, []api.Bind{other, a}, api.Value{}, api.ErrTermName)
	}
}
