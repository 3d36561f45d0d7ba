package term

import (
	"slices"

	"repartee/api"
	"repartee/data"
)

// Eval returns the value of the tree of root, whose variables have their values in env.
func Eval(l []api.Term, root int, env []api.Bind) (api.Value, api.Errno) {
	if !May(l, root) {
		return api.Value{}, api.ErrTermForm
	}
	var eval func(at int) (api.Value, api.Errno)
	eval = func(at int) (api.Value, api.Errno) {
		var args []api.Value
		for _, o := range operands(l[at]) {
			v, e := eval(o)
			if e != api.OK {
				return api.Value{}, e
			}
			args = append(args, v)
		}
		return evalTerm(l[at], args, env)
	}
	return eval(root)
}

// evalTerm returns the value of t, whose operands have the values args.
func evalTerm(t api.Term, args []api.Value, env []api.Bind) (api.Value, api.Errno) {
	switch t.Kind {
	case api.TVar:
		return variable(t.Name, env)
	case api.TNum:
		return number(t.N), api.OK
	case api.TBool:
		return truth(t.N == 1), api.OK
	case api.TText:
		return text(t.Text), api.OK
	case api.TEmpty:
		return list(nil), api.OK
	case api.TUnit:
		return api.Value{Kind: api.Unit}, api.OK
	}
	if !fit(t.Kind, args) {
		return api.Value{}, api.ErrTermKind
	}
	switch t.Kind {
	case api.TNot:
		return truth(args[0].N == 0), api.OK
	case api.TLen:
		// A text has no numbers, and a list no bytes.
		return number(int64(len(args[0].S) + len(args[0].L))), api.OK
	}
	return combine(t.Kind, args[0], args[1])
}

// variable returns the value that env has first under name, in memory of its own.
func variable(name string, env []api.Bind) (api.Value, api.Errno) {
	i := slices.IndexFunc(env, func(b api.Bind) bool { return b.Name == name })
	switch {
	case i < 0:
		return api.Value{}, api.ErrTermName
	case !data.May(env[i].Value):
		return api.Value{}, api.ErrTermKind
	}
	v := env[i].Value
	v.L = append([]int64(nil), v.L...)
	return v, api.OK
}

// fit reports whether the values have the Kinds that the operands of a term of this kind must have.
func fit(kind int, args []api.Value) bool {
	switch kind {
	case api.TEq:
		return args[0].Kind == args[1].Kind && args[0].Kind != api.Chan
	case api.TAnd, api.TOr:
		return are(args, api.Bool, api.Bool)
	case api.TNot:
		return are(args, api.Bool)
	case api.TLen:
		return are(args, api.Text) || are(args, api.List)
	case api.TAt, api.TPush:
		return are(args, api.List, api.Int)
	case api.TJoin:
		return are(args, api.Text, api.Text)
	}
	return are(args, api.Int, api.Int)
}

// are reports whether the values have these Kinds, of which there are as many.
func are(args []api.Value, kinds ...int) bool {
	for i, v := range args {
		if v.Kind != kinds[i] {
			return false
		}
	}
	return true
}

// combine returns the value of a term of this kind whose operands have the values a and b, which fit.
func combine(kind int, a, b api.Value) (api.Value, api.Errno) {
	switch kind {
	case api.TEq, api.TLess, api.TAnd, api.TOr:
		return truth(holds(kind, a, b)), api.OK
	case api.TAt:
		return element(a.L, b.N)
	case api.TPush:
		return push(a.L, b.N)
	case api.TJoin:
		return join(a.S, b.S)
	}
	return calculate(kind, a.N, b.N)
}

func holds(kind int, a, b api.Value) bool {
	switch kind {
	case api.TEq:
		return data.Same(a, b)
	case api.TLess:
		return a.N < b.N
	case api.TAnd:
		return a.N == 1 && b.N == 1
	}
	return a.N == 1 || b.N == 1
}

func calculate(kind int, a, b int64) (api.Value, api.Errno) {
	switch kind {
	case api.TAdd:
		return number(a + b), api.OK
	case api.TSub:
		return number(a - b), api.OK
	case api.TMul:
		return number(a * b), api.OK
	}
	switch {
	case b == 0:
		return api.Value{}, api.ErrTermDiv
	case kind == api.TDiv:
		return number(a / b), api.OK
	}
	return number(a % b), api.OK
}

func element(l []int64, place int64) (api.Value, api.Errno) {
	if place < 0 || place >= int64(len(l)) {
		return api.Value{}, api.ErrTermPlace
	}
	return number(l[place]), api.OK
}

func push(l []int64, n int64) (api.Value, api.Errno) {
	if len(l) >= api.MaxList {
		return api.Value{}, api.ErrTermLong
	}
	return list(slices.Concat(l, []int64{n})), api.OK
}

func join(a, b string) (api.Value, api.Errno) {
	if len(a)+len(b) > api.MaxText {
		return api.Value{}, api.ErrTermLong
	}
	return text(a + b), api.OK
}

func number(n int64) api.Value { return api.Value{Kind: api.Int, N: n} }

func text(s string) api.Value { return api.Value{Kind: api.Text, S: s} }

func list(l []int64) api.Value { return api.Value{Kind: api.List, L: l} }

func truth(b bool) api.Value {
	if b {
		return api.Value{Kind: api.Bool, N: 1}
	}
	return api.Value{Kind: api.Bool}
}
