package kind_test

import (
	"math"
	"slices"
	"strings"
	"testing"

	"repartee/api"
	"repartee/kind"
)

// row is a list of terms, to which each method adds one and returns its index.
type row struct{ l []api.Term }

func (r *row) put(t api.Term) int {
	r.l = append(r.l, t)
	return len(r.l) - 1
}

func (r *row) leaf(kind int) int      { return r.put(api.Term{Kind: kind, L: -1, R: -1}) }
func (r *row) num(n int64) int        { return r.put(api.Term{Kind: api.TNum, N: n, L: -1, R: -1}) }
func (r *row) truth(n int64) int      { return r.put(api.Term{Kind: api.TBool, N: n, L: -1, R: -1}) }
func (r *row) text(s string) int      { return r.put(api.Term{Kind: api.TText, Text: s, L: -1, R: -1}) }
func (r *row) name(s string) int      { return r.put(api.Term{Kind: api.TVar, Name: s, L: -1, R: -1}) }
func (r *row) one(kind, at int) int   { return r.put(api.Term{Kind: kind, L: at, R: -1}) }
func (r *row) two(kind, a, b int) int { return r.put(api.Term{Kind: kind, L: a, R: b}) }

var (
	oneKinds = []int{api.TNot, api.TLen}
	twoKinds = []int{api.TAdd, api.TSub, api.TMul, api.TDiv, api.TMod, api.TEq, api.TLess, api.TAnd, api.TOr, api.TAt, api.TPush, api.TJoin}
	oddKinds = []int{math.MinInt, -1 << 32, -2, -1, 6, 7, 19, 256, 1 << 32, 1<<32 + 1, math.MaxInt}
)

// letters are the names of variables of the Kinds from Unit to Chan, and stand for these Kinds in the table.
const letters = "uibtlc"

// table has what the table of chapter 4 says of each kind of term: the Kinds of the operands, and behind the arrow that of the value.
var table = [20]string{
	api.TNum: ">i", api.TBool: ">b", api.TText: ">t", api.TEmpty: ">l", api.TUnit: ">u",
	api.TAdd: "ii>i", api.TSub: "ii>i", api.TMul: "ii>i", api.TDiv: "ii>i", api.TMod: "ii>i",
	api.TEq: "uu>b ii>b bb>b tt>b ll>b", api.TLess: "ii>b", api.TAnd: "bb>b", api.TOr: "bb>b", api.TNot: "b>b",
	api.TLen: "t>i l>i", api.TAt: "li>i", api.TPush: "li>l", api.TJoin: "tt>t",
}

// typed is an entry of an env.
func typed(name string, kind int) api.Typing {
	return api.Typing{Name: name, Sort: api.Sort{Kind: kind}}
}

// letterEnv has each letter as a variable of its Kind, and odd as one of none.
func letterEnv() []api.Typing {
	env := []api.Typing{typed("odd", 6)}
	for k, x := range letters {
		env = append(env, typed(string(x), k))
	}
	return env
}

// simpleOf tells what P5.1 says of the term at this index of a valid tree: the letter of its Kind, or an error.
func simpleOf(l []api.Term, at int, env []api.Typing) (string, api.Errno) {
	x := l[at]
	if x.Kind == api.TVar {
		for _, y := range env {
			if y.Name == x.Name && (y.Sort.Kind < 0 || y.Sort.Kind > 5) {
				return "", api.ErrKindMix
			}
			if y.Name == x.Name {
				return letters[y.Sort.Kind : y.Sort.Kind+1], api.OK
			}
		}
		return "", api.ErrKindName
	}
	have := ""
	for _, o := range []int{x.L, x.R} {
		if o >= 0 {
			s, e := simpleOf(l, o, env)
			if e != api.OK {
				return "", e
			}
			have += s
		}
	}
	for _, line := range strings.Fields(table[x.Kind]) {
		if value, ok := strings.CutPrefix(line, have+">"); ok {
			return value, api.OK
		}
	}
	return "", api.ErrKindMix
}

// checkOf checks that Of returns this Kind or error, whenever it is asked, and that the arguments stay as they are.
func checkOf(t *testing.T, r *row, root int, env []api.Typing, want int, refused api.Errno) {
	t.Helper()
	terms, types := slices.Clone(r.l), slices.Clone(env)
	for range 2 {
		if k, e := kind.Of(r.l, root, env); k != want || e != refused {
			t.Fatalf("P5.1: Of(%v, %d, %v) = %d, %d, want %d, %d", r.l, root, env, k, e, want, refused)
		}
	}
	if !slices.Equal(r.l, terms) || !slices.Equal(env, types) {
		t.Fatalf("P0.4: Of changed %v and %v to %v and %v", terms, types, r.l, env)
	}
}

// checkSimple is checkOf with what simpleOf tells.
func checkSimple(t *testing.T, r *row, root int, env []api.Typing) api.Errno {
	t.Helper()
	s, e := simpleOf(r.l, root, env)
	want := 0
	if e == api.OK {
		want = strings.Index(letters, s)
	}
	checkOf(t, r, root, env, want, e)
	return e
}

func TestOfConstants(t *testing.T) {
	for _, env := range [][]api.Typing{nil, {}, letterEnv(), {typed("", 6), typed("unit", -1)}} {
		r := &row{}
		for _, n := range []int64{0, 1, -1, 5, math.MinInt64, math.MaxInt64} {
			checkOf(t, r, r.num(n), env, api.Int, api.OK)
		}
		checkOf(t, r, r.truth(0), env, api.Bool, api.OK)
		checkOf(t, r, r.truth(1), env, api.Bool, api.OK)
		for _, s := range []string{"", "i", "\x00\xff", strings.Repeat("x", 24)} {
			checkOf(t, r, r.text(s), env, api.Text, api.OK)
		}
		checkOf(t, r, r.leaf(api.TEmpty), env, api.List, api.OK)
		checkOf(t, r, r.leaf(api.TUnit), env, api.Unit, api.OK)
	}
}

func TestOfVariables(t *testing.T) {
	r := &row{}
	x := r.name("x")
	for k := api.Unit; k <= api.Chan; k++ {
		for _, at := range []int{0, 1, 7, -1, math.MinInt, math.MaxInt} {
			sort := api.Sort{Kind: k, At: at}
			checkOf(t, r, x, []api.Typing{{Name: "x", Sort: sort}}, k, api.OK)
			checkOf(t, r, x, []api.Typing{typed("w", 6), typed("y", 0), {Name: "x", Sort: sort}, typed("z", -1)}, k, api.OK)
		}
	}
	for _, k := range oddKinds {
		checkOf(t, r, x, []api.Typing{typed("x", k)}, 0, api.ErrKindMix)
		checkOf(t, r, x, []api.Typing{typed("y", 1), {Name: "x", Sort: api.Sort{Kind: k, At: 1}}}, 0, api.ErrKindMix)
	}
}

func TestOfVariablesWithoutAnEntry(t *testing.T) {
	r := &row{}
	x := r.name("xy")
	others := []api.Typing{typed("", 1), typed("x", 1), typed("y", 1), typed("xyz", 1), typed("XY", 1), typed("xy ", 1), typed("yx", 1)}
	for n := range len(others) + 1 {
		checkOf(t, r, x, others[:n], 0, api.ErrKindName)
	}
	for _, k := range append([]int{0, 1, 2, 3, 4, 5}, oddKinds...) {
		beyond := []api.Typing{typed("x", 1), typed("xy", k), typed("xy", 1)}
		checkOf(t, r, x, beyond[:1], 0, api.ErrKindName)
		checkOf(t, r, x, beyond[:0], 0, api.ErrKindName)
	}
}

func TestOfVariablesWithTwoEntries(t *testing.T) {
	r := &row{}
	x := r.name("x")
	all := append([]int{0, 1, 2, 3, 4, 5}, oddKinds...)
	for _, a := range all {
		for _, b := range all {
			for _, env := range [][]api.Typing{
				{typed("x", a), typed("x", b)},
				{typed("y", b), typed("x", a), typed("y", b), typed("x", b), typed("x", a)},
			} {
				if a < 0 || a > 5 {
					checkOf(t, r, x, env, 0, api.ErrKindMix)
				} else {
					checkOf(t, r, x, env, a, api.OK)
				}
			}
		}
	}
}

// checkOperation checks the operation on two variables, or on the first alone; an empty want is for ErrKindMix.
func checkOperation(t *testing.T, op int, names, want string) {
	t.Helper()
	refused, k := api.ErrKindMix, 0
	if want != "" {
		refused, k = api.OK, strings.Index(letters, want)
	}
	r := &row{}
	if len(names) == 1 {
		checkOf(t, r, r.one(op, r.name(names)), letterEnv(), k, refused)
		return
	}
	a, b := r.name(names[:1]), r.name(names[1:])
	checkOf(t, r, r.two(op, a, b), letterEnv(), k, refused)
	b, a = r.name(names[1:]), r.name(names[:1])
	checkOf(t, r, r.two(op, a, b), letterEnv(), k, refused)
}

func TestOfEachOperationOnOperandsOfEachKind(t *testing.T) {
	fits := map[string]string{}
	for op, lines := range table {
		for _, line := range strings.Fields(lines) {
			operands, value, _ := strings.Cut(line, ">")
			fits[string(rune('A'+op))+operands] = value
		}
	}
	for _, a := range letters {
		for _, op := range oneKinds {
			operands := string(a)
			checkOperation(t, op, operands, fits[string(rune('A'+op))+operands])
		}
		for _, b := range letters {
			for _, op := range twoKinds {
				operands := string(a) + string(b)
				checkOperation(t, op, operands, fits[string(rune('A'+op))+operands])
			}
		}
	}
}

func TestOfEqualityOfTheSameKind(t *testing.T) {
	for _, x := range "uibtl" {
		checkOperation(t, api.TEq, strings.Repeat(string(x), 2), "b")
	}
	checkOperation(t, api.TEq, "cc", "")
	// Neither the node of an end nor its name makes it one that may be compared.
	r := &row{}
	same := r.two(api.TEq, r.name("c"), r.name("d"))
	for at := range 3 {
		env := []api.Typing{{Name: "c", Sort: api.Sort{Kind: api.Chan, At: at}}, {Name: "d", Sort: api.Sort{Kind: api.Chan, At: 1}}}
		checkOf(t, r, same, env, 0, api.ErrKindMix)
	}
}

// adders add trees of which the value has the Kind of the letter, each by another kind of term.
func adders() map[rune][]func(r *row) int {
	all := map[rune][]func(r *row) int{
		'u': {func(r *row) int { return r.leaf(api.TUnit) }},
		'i': {func(r *row) int { return r.num(0) }},
		'b': {func(r *row) int { return r.truth(0) }},
		't': {func(r *row) int { return r.text("a") }},
		'l': {func(r *row) int { return r.leaf(api.TEmpty) }},
	}
	for op, lines := range table {
		for _, line := range strings.Fields(lines) {
			operands, value, _ := strings.Cut(line, ">")
			to := rune(value[0])
			switch len(operands) {
			case 1:
				all[to] = append(all[to], func(r *row) int { return r.one(op, r.name(operands)) })
			case 2:
				all[to] = append(all[to], func(r *row) int { return r.two(op, r.name(operands[:1]), r.name(operands[1:])) })
			}
		}
	}
	for _, x := range letters {
		all[x] = append(all[x], func(r *row) int { return r.name(string(x)) })
	}
	return all
}

func TestOfOperationsOnOtherOperations(t *testing.T) {
	all := adders()
	for x, l := range all {
		for _, a := range l {
			r := &row{}
			checkOf(t, r, a(r), letterEnv(), strings.IndexRune(letters, x), api.OK)
			for _, op := range oneKinds {
				checkSimple(t, r, r.one(op, a(r)), letterEnv())
			}
			for _, l := range all {
				for _, b := range l {
					for _, op := range twoKinds {
						r := &row{}
						right := b(r)
						checkSimple(t, r, r.two(op, a(r), right), letterEnv())
						checkSimple(t, r, r.two(op, a(r), b(r)), letterEnv())
					}
				}
			}
		}
	}
}

func TestOfTheExample(t *testing.T) {
	r := &row{}
	checkOf(t, r, r.two(api.TAdd, r.name("x"), r.num(1)), []api.Typing{typed("x", api.Bool)}, 0, api.ErrKindMix)
}
