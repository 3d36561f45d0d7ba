package book_test

import (
	"cmp"
	"slices"
	"strings"
	"testing"

	"repartee/api"
	"repartee/book"
	"repartee/globe"
	"repartee/names"
	"repartee/project"
	"repartee/sketch"
	"repartee/turns"
)

// parts reads protocols and local types. A protocol is its Name, its roles in brackets, a colon and its points; a local type is its Name, a colon and its turns.
func parts(texts ...string) ([]api.Protocol, []api.Local) {
	var ps []api.Protocol
	var ls []api.Local
	for _, text := range texts {
		head, body, _ := strings.Cut(text, ": ")
		if name, roles, is := strings.Cut(strings.TrimSuffix(head, ")"), "("); is {
			ps = append(ps, sketch.Protocol(name, roles, body))
		} else {
			ls = append(ls, sketch.Local(head, body))
		}
	}
	return ps, ls
}

// copiedProtocols are ps in memory of their own, as are copiedLocals.
func copiedProtocols(ps []api.Protocol) []api.Protocol { return each(ps, sketch.CopyProtocol) }

func copiedLocals(ls []api.Local) []api.Local { return each(ls, sketch.CopyLocal) }

// each is what f says of each element of l.
func each[T any](l []T, f func(T) T) []T {
	var all []T
	for _, x := range l {
		all = append(all, f(x))
	}
	return all
}

// part is a protocol or a local type as chapter 9 looks at it: whether it is valid, the arms of its points or turns, and the local types that it adds to the book. If a protocol is refused, role is the index of the role, and -1 otherwise.
type part struct {
	name  string
	valid bool
	arms  [][]api.Arm
	types []api.Local
	role  int
}

func partsOf(ps []api.Protocol, ls []api.Local) []part {
	var l []part
	for _, p := range ps {
		x := part{name: p.Name, valid: globe.May(p), role: -1}
		for _, y := range p.Points {
			x.arms = append(x.arms, y.Arms)
		}
		types, role, e := project.All(p)
		x.types = types
		if e != api.OK {
			x.role = role
		}
		l = append(l, x)
	}
	for _, local := range ls {
		x := part{name: local.Name, valid: turns.May(local) && names.May(local.Name), types: []api.Local{turns.Trim(local)}, role: -1}
		for _, y := range local.Turns {
			x.arms = append(x.arms, y.Arms)
		}
		l = append(l, x)
	}
	return l
}

// faults are all faults, each with the number of the step of P9.2 that it belongs to.
func faults(ps []api.Protocol, ls []api.Local) map[int][]api.Fault {
	found := map[int][]api.Fault{}
	put := func(step int, e api.Errno, part, at int) {
		found[step] = append(found[step], api.Fault{Err: e, Part: part, At: at})
	}
	if len(ps) > 6 || len(ls) > 12 {
		put(1, 900, -1, -1)
	}
	nodes := 0
	all := partsOf(ps, ls)
	for i, x := range all {
		if !x.valid {
			put(1, 900, i, -1)
		}
		if slices.ContainsFunc(all[:i], func(y part) bool { return x.name == y.name }) {
			put(2, 901, i, -1)
		}
		if x.role >= 0 {
			put(3, 902, i, x.role)
		}
		for at, arms := range x.arms {
			for _, a := range arms {
				if a.Carries.Kind == 5 && !carried(ps, ls, a.Carries.Name) {
					put(4, 903, i, at)
				}
			}
		}
		for _, l := range x.types {
			nodes += len(l.Turns)
		}
		if nodes > 400 {
			put(5, 904, i, -1)
		}
	}
	return found
}

// carried reports whether the name is that of a local type, or that of a protocol, a dot and one of its roles.
func carried(ps []api.Protocol, ls []api.Local, name string) bool {
	for _, p := range ps {
		for _, role := range p.Roles {
			if name == p.Name+"."+role {
				return true
			}
		}
	}
	return slices.ContainsFunc(ls, func(l api.Local) bool { return l.Name == name })
}

// simpleOf tells what P9.2 says of ps and ls: it looks for all faults, and takes the first one.
func simpleOf(ps []api.Protocol, ls []api.Local) (api.Book, api.Fault) {
	found := faults(ps, ls)
	for step := 1; step <= 5; step++ {
		if len(found[step]) > 0 {
			return api.Book{}, found[step][0]
		}
	}
	return simpleBook(partsOf(ps, ls)), api.Fault{}
}

// simpleBook is the book of parts without fault.
func simpleBook(all []part) api.Book {
	var types []api.Local
	for _, x := range all {
		types = append(types, x.types...)
	}
	root := func(name string) int {
		n := 0
		for _, l := range types {
			if l.Name == name {
				return n
			}
			n += len(l.Turns)
		}
		return -1
	}
	var b api.Book
	for _, l := range types {
		b.Names = append(b.Names, l.Name)
		for _, x := range l.Turns {
			n := api.Node{Kind: x.Kind, Peer: x.Peer}
			for _, a := range x.Arms {
				e := api.Edge{Label: a.Label, Sort: api.Sort{Kind: a.Carries.Kind}, Next: a.Next + root(l.Name)}
				if a.Carries.Kind == 5 {
					e.Sort.At = root(a.Carries.Name)
				}
				n.Arms = append(n.Arms, e)
			}
			b.Nodes = append(b.Nodes, n)
		}
	}
	slices.SortFunc(b.Names, strings.Compare)
	for _, name := range b.Names {
		b.Roots = append(b.Roots, root(name))
	}
	return b
}

// simpleMay tells what P9.1 says of b: no condition is hurt.
func simpleMay(b api.Book) bool {
	hurt := len(b.Nodes) > 400 || len(b.Names) != len(b.Roots)
	is := func(at int) bool { return at >= 0 && at <= len(b.Nodes)-1 }
	for i, name := range b.Names {
		for _, earlier := range b.Names[:i] {
			hurt = hurt || cmp.Compare(earlier, name) != -1
		}
	}
	for _, root := range b.Roots {
		hurt = hurt || !is(root)
	}
	for _, n := range b.Nodes {
		end := n.Kind == 0 && n.Peer == "" && len(n.Arms) == 0
		acts := (n.Kind == 1 || n.Kind == 2) && names.May(n.Peer) && len(n.Arms) >= 1 && len(n.Arms) <= 6
		hurt = hurt || !end && !acts
		for i, e := range n.Arms {
			chosen := e.Sort.Kind == 5 && is(e.Sort.At) || slices.Contains([]int{0, 1, 2, 3, 4}, e.Sort.Kind) && e.Sort.At == 0
			hurt = hurt || !names.May(e.Label) || !is(e.Next) || !chosen || i > 0 && n.Arms[i-1].Label >= e.Label
		}
	}
	return !hurt
}

// simpleRoot tells what P9.3 says of b and the name.
func simpleRoot(b api.Book, name string) (int, bool) {
	if simpleMay(b) {
		for i := range b.Names {
			if b.Names[i] == name {
				return b.Roots[i], true
			}
		}
	}
	return 0, false
}

// simpleSort tells what P9.3 says of b and c.
func simpleSort(b api.Book, c api.Carries) (api.Sort, bool) {
	switch c.Kind {
	case 0, 1, 2, 3, 4:
		if c.Name == "" {
			return api.Sort{Kind: c.Kind}, true
		}
	case 5:
		if at, is := simpleRoot(b, c.Name); is {
			return api.Sort{Kind: 5, At: at}, true
		}
	}
	return api.Sort{}, false
}

// checkBook checks what May, Root and Sort say of b, for its own names and others, and that b stays as it is.
func checkBook(t *testing.T, b api.Book) bool {
	t.Helper()
	before := sketch.Copy(b)
	want := simpleMay(b)
	if got := book.May(b); got != want {
		t.Fatalf("P9.1: May(%v) = %v", b, got)
	}
	asked := []string{"", "a", "p", "p.", ".a", "p.a", "p.z", "rest", "z", "zzzzzzzzzzzzz"}
	for _, name := range b.Names[:min(len(b.Names), 50)] {
		asked = append(asked, name, name+"0", name+"\x00", strings.TrimSuffix(name, "a"))
	}
	for _, name := range asked {
		at, is := book.Root(b, name)
		if wantAt, wantIs := simpleRoot(b, name); at != wantAt || is != wantIs {
			t.Fatalf("P9.3: Root(%v, %q) = %d, %v", b, name, at, is)
		}
		for kind := -1; kind <= 6; kind++ {
			checkSort(t, b, api.Carries{Kind: kind, Name: name})
		}
	}
	if !sketch.Same(b, before) {
		t.Fatalf("P0.4: %v was changed to %v", before, b)
	}
	return want
}

func checkSort(t *testing.T, b api.Book, c api.Carries) {
	t.Helper()
	s, is := book.Sort(b, c)
	if wantSort, wantIs := simpleSort(b, c); s != wantSort || is != wantIs {
		t.Fatalf("P9.3: Sort(%v, %v) = %v, %v, want %v, %v", b, c, s, is, wantSort, wantIs)
	}
}

// check checks what Of says of ps and ls, and what follows for its book, and that both stay as they are.
func check(t *testing.T, ps []api.Protocol, ls []api.Local) (api.Book, api.Fault) {
	t.Helper()
	beforePs, beforeLs := copiedProtocols(ps), copiedLocals(ls)
	want, wantFault := simpleOf(ps, ls)
	var got api.Book
	for range 2 {
		b, f := book.Of(ps, ls)
		if f != wantFault || !sketch.Same(b, want) {
			t.Fatalf("P9.2: Of(%v, %v) = %v, %v, want %v, %v", ps, ls, b, f, want, wantFault)
		}
		got = b
	}
	if !slices.EqualFunc(ps, beforePs, sketch.SameProtocol) || !slices.EqualFunc(ls, beforeLs, sketch.SameLocal) {
		t.Fatalf("P0.4: %v and %v were changed to %v and %v", beforePs, beforeLs, ps, ls)
	}
	if !checkBook(t, got) {
		t.Fatalf("P9.4: the book %v of %v and %v is not valid", got, ps, ls)
	}
	return got, wantFault
}
