package book_test

import (
	"slices"
	"strconv"
	"strings"
	"testing"

	"repartee/api"
	"repartee/book"
	"repartee/project"
	"repartee/sketch"
)

// books are protocols and local types without fault, and their books.
var books = []struct {
	parts        []string
	roots, nodes string
}{
	// Nothing, and the example.
	{nil, "", ""},
	{[]string{"rest: ."}, "rest=0", "."},
	// The roles of a protocol in their order.
	{[]string{"p(a b): ."}, "p.a=0 p.b=1", ". ."},
	{[]string{"p(a b): a-b!x>1 ."}, "p.a=0 p.b=2", "b!x>1 . a?x>3 ."},
	{[]string{"p(b a): a-b!x>0"}, "p.a=1 p.b=0", "a?x>0 b!x>1"},
	{[]string{"p(e d c b a): a-b!x>0"}, "p.a=4 p.b=3 p.c=2 p.d=1 p.e=0", ". . . a?x>3 b!x>4"},
	{[]string{"p(a b c): a-b!x>1 b-c!y>2 c-a!z>0"}, "p.a=0 p.b=2 p.c=4", "b!x>1 c?z>0 a?x>3 c!y>2 b?y>5 a!z>4"},
	{[]string{"p(a b c): a-b!l>1,r>2 b-c!x>3 b-c!y:3>3 ."}, "p.a=0 p.b=2 p.c=6", "b!l>1,r>1 . a?l>3,r>4 c!x>5 c!y:3>5 . b?x>7,y:3>7 ."},
	// Only what is reachable, in the order in which it is met, with arms by ascending labels.
	{[]string{"p(a b): a-b!y:1>3,x>0 . b-a!z>0 ."}, "p.a=0 p.b=2", "b!x>0,y:1>1 . a?x>2,y:1>3 ."},
	{[]string{"r: b?y>2,x>0 . ."}, "r=0", "b?x>0,y>1 ."},
	{[]string{"r: . b!x>2 ."}, "r=0", "."},
	{[]string{"r: . . .", "s: b!z>3,y>1,x>2 c?x>0 d!x>4 e?x>0 . q!x>0", "t: . t!x>0"}, "r=0 s=1 t=6", ". b!x>2,y>3,z>4 d!x>5 c?x>1 e?x>1 . ."},
	// Types that are equal are not merged.
	{[]string{"r: b!x>0", "s: b!x>0"}, "r=0 s=1", "b!x>0 b!x>1"},
	// The names in ascending order, a dot before digits and digits before letters.
	{[]string{"z: .", "b: q!x>0", "a: . ."}, "a=2 b=1 z=0", ". q!x>1 ."},
	{[]string{"pa(a b): .", "p(a b): .", "p2(b a): .", "p1: ."}, "p.a=2 p.b=3 p1=6 p2.a=5 p2.b=4 pa.a=0 pa.b=1", ". . . . . . ."},
	{[]string{"p(b10 b9 b c): b9-c!x>0"}, "p.b=2 p.b10=0 p.b9=1 p.c=3", ". c!x>1 . b9?x>3"},
	{[]string{"p(a b): .", "a: .", "b: .", "q: ."}, "a=2 b=3 p.a=0 p.b=1 q=4", ". . . . ."},
	// What the arms carry: each kind, and types from before, from behind and of its own.
	{[]string{"r: b!a:0>0,b:1>0,c:2>0,d:3>0,e:4>0,f:5r>0"}, "r=0", "b!a>0,b:1>0,c:2>0,d:3>0,e:4>0,f:5.0>0"},
	{[]string{"p(a b): a-b!a:0>0,b:1>0,c:2>0,d:3>0,e:4>0,f:5p.b>0"}, "p.a=0 p.b=1", "b!a>0,b:1>0,c:2>0,d:3>0,e:4>0,f:5.1>0 a?a>1,b:1>1,c:2>1,d:3>1,e:4>1,f:5.1>1"},
	{[]string{"p(a b): a-b!x:5q.b>0", "q(a b): a-b!k:5p.a>1,l:5rest>1 .", "rest: z?g:5rest>0,h:5p.b>0,i:5q.a>0"}, "p.a=0 p.b=1 q.a=2 q.b=4 rest=6", "b!x:5.4>0 a?x:5.4>1 b!k:5.0>3,l:5.6>3 . a?k:5.0>5,l:5.6>5 . z?g:5.6>6,h:5.1>6,i:5.2>6"},
	{[]string{"p(a b): a-b!x:5a>0,y:5p.a>0,z:5b>0", "b: .", "a: ."}, "a=3 b=2 p.a=0 p.b=1", "b!x:5.3>0,y:5.0>0,z:5.2>0 a?x:5.3>1,y:5.0>1,z:5.2>1 . ."},
	{[]string{"r: b!x:5s>1 .", "s: b!x:5t>1 .", "t: b!x:5r>0"}, "r=0 s=2 t=4", "b!x:5.2>1 . b!x:5.4>3 . b!x:5.0>4"},
	// A role that does not see an arm has nothing of what it carries, and its root is there to be carried.
	{[]string{"p(c a b): a-b!x:5p.c>0"}, "p.a=1 p.b=2 p.c=0", ". b!x:5.0>1 a?x:5.0>2"},
	// Points and turns that are not reachable may carry what they like, as long as it is there.
	{[]string{"p(a b): . b-a!x:5rest>1", "rest: . z!x:5p.b>1"}, "p.a=0 p.b=1 rest=2", ". . ."},
}

func TestOf(t *testing.T) {
	for _, c := range books {
		ps, ls := parts(c.parts...)
		want := sketch.Book(c.roots, c.nodes)
		if b, f := book.Of(ps, ls); f != (api.Fault{}) || !sketch.Same(b, want) {
			t.Errorf("P9.2: Of(%q) = %v, %v, want %v", c.parts, b, f, want)
		}
		if !book.May(want) {
			t.Errorf("P9.4: the book of %q is not valid", c.parts)
		}
		check(t, ps, ls)
	}
}

// refusals are protocols and local types that have faults, and the first one.
var refusals = []struct {
	parts []string
	want  api.Fault
}{
	// A protocol is invalid.
	{[]string{"p(a): ."}, api.Fault{Err: api.ErrBookForm, Part: 0, At: -1}},
	{[]string{"end(a b): ."}, api.Fault{Err: api.ErrBookForm, Part: 0, At: -1}},
	{[]string{"p(a b): "}, api.Fault{Err: api.ErrBookForm, Part: 0, At: -1}},
	{[]string{"p(a b): .", "q(a b): a-a!x>0"}, api.Fault{Err: api.ErrBookForm, Part: 1, At: -1}},
	{[]string{"p(a b): .", "q(a b): . a-b!x>2", "s(a b): "}, api.Fault{Err: api.ErrBookForm, Part: 1, At: -1}},
	{[]string{"p(a b): a-b!x:5>0"}, api.Fault{Err: api.ErrBookForm, Part: 0, At: -1}},
	{[]string{"p(a b): a-b!x:5p.a.b>0"}, api.Fault{Err: api.ErrBookForm, Part: 0, At: -1}},
	{[]string{"p(a b): a-b!x:6>0"}, api.Fault{Err: api.ErrBookForm, Part: 0, At: -1}},
	{[]string{"p(a b): a-b!x:1p.a>0"}, api.Fault{Err: api.ErrBookForm, Part: 0, At: -1}},
	// A local type is invalid, or its Name is not a name.
	{[]string{"r: "}, api.Fault{Err: api.ErrBookForm, Part: 0, At: -1}},
	{[]string{"r: .", "s: b!x>1"}, api.Fault{Err: api.ErrBookForm, Part: 1, At: -1}},
	{[]string{"r: .", "s: .", "t: . b!x:5>0"}, api.Fault{Err: api.ErrBookForm, Part: 2, At: -1}},
	{[]string{"p(a b): .", "q(a b): .", "r: .", "s: "}, api.Fault{Err: api.ErrBookForm, Part: 3, At: -1}},
	{[]string{": ."}, api.Fault{Err: api.ErrBookForm, Part: 0, At: -1}},
	{[]string{"end: ."}, api.Fault{Err: api.ErrBookForm, Part: 0, At: -1}},
	{[]string{"R: ."}, api.Fault{Err: api.ErrBookForm, Part: 0, At: -1}},
	{[]string{"abcdefghijkl: .", "abcdefghijklm: ."}, api.Fault{Err: api.ErrBookForm, Part: 1, At: -1}},
	{[]string{"p(a b): .", "p.a: ."}, api.Fault{Err: api.ErrBookForm, Part: 1, At: -1}},
	// An invalid protocol comes first, also behind an invalid local type.
	{[]string{"r: ", "p(a b): .", "q(a b): "}, api.Fault{Err: api.ErrBookForm, Part: 1, At: -1}},
	{[]string{"p(a b): ", "R: ."}, api.Fault{Err: api.ErrBookForm, Part: 0, At: -1}},
	{[]string{"p(a b): .", "r: .", "R: .", "s: "}, api.Fault{Err: api.ErrBookForm, Part: 2, At: -1}},
	{[]string{"p(a b): .", "r: .", "s: ", "R: ."}, api.Fault{Err: api.ErrBookForm, Part: 2, At: -1}},
	// A Name comes again.
	{[]string{"p(a b): .", "p(c d): ."}, api.Fault{Err: api.ErrBookTwice, Part: 1, At: -1}},
	{[]string{"p(a b): .", "q(a b): .", "s(a b): .", "q(a b): .", "p(a b): ."}, api.Fault{Err: api.ErrBookTwice, Part: 3, At: -1}},
	{[]string{"r: .", "r: ."}, api.Fault{Err: api.ErrBookTwice, Part: 1, At: -1}},
	{[]string{"p(a b): .", "r: .", "s: .", "t: .", "s: .", "r: ."}, api.Fault{Err: api.ErrBookTwice, Part: 4, At: -1}},
	{[]string{"p(a b): .", "p: ."}, api.Fault{Err: api.ErrBookTwice, Part: 1, At: -1}},
	{[]string{"p(a b): .", "q(a b): .", "r: .", "q: .", "r: ."}, api.Fault{Err: api.ErrBookTwice, Part: 3, At: -1}},
	{[]string{"r: .", "p(a b): .", "r(a b): ."}, api.Fault{Err: api.ErrBookTwice, Part: 2, At: -1}},
	{[]string{"p(a b): .", "p(a b): .", "r: .", "r: ."}, api.Fault{Err: api.ErrBookTwice, Part: 1, At: -1}},
	// A protocol cannot be projected to a role.
	{[]string{"p(c a b): a-b!x>1,y>2 . b-c!z>1"}, api.Fault{Err: api.ErrBookRole, Part: 0, At: 0}},
	{[]string{"p(a c b): a-b!x>1,y>2 . b-c!z>1"}, api.Fault{Err: api.ErrBookRole, Part: 0, At: 1}},
	{[]string{"p(a b d e c): a-b!x>1,y>2 . b-c!z>1"}, api.Fault{Err: api.ErrBookRole, Part: 0, At: 4}},
	{[]string{"p(a b): .", "q(a b c): a-b!x>1,y>2 b-c!z>0 c-b!z>0", "r: ."}, api.Fault{Err: api.ErrBookRole, Part: 1, At: 2}},
	{[]string{"p(a b): .", "q(b c a): a-b!x>1,y>2 c-b!z>0 c-b!w>0", "s(c a b): a-b!x>1,y>2 . b-c!z>1"}, api.Fault{Err: api.ErrBookRole, Part: 1, At: 1}},
	{[]string{"p(a c b): a-b!x>1,y>2 c-b!z>0 c-b!z:1>0"}, api.Fault{Err: api.ErrBookRole, Part: 0, At: 1}},
	{[]string{"p(c a b): a-b!x>1,y>2 b-c!a>0,b>0,c>0,d>0 b-c!e>0,f>0,g>0"}, api.Fault{Err: api.ErrBookRole, Part: 0, At: 0}},
	// A Chan has the Name of a protocol alone, or a protocol and a role that it does not have, or of nothing.
	{[]string{"p(a b): a-b!x:5p>0"}, api.Fault{Err: api.ErrBookName, Part: 0, At: 0}},
	{[]string{"p(a b): a-b!x:5p.c>0"}, api.Fault{Err: api.ErrBookName, Part: 0, At: 0}},
	{[]string{"p(a b): a-b!x:5q.a>0"}, api.Fault{Err: api.ErrBookName, Part: 0, At: 0}},
	{[]string{"p(a b): a-b!x:5a>0"}, api.Fault{Err: api.ErrBookName, Part: 0, At: 0}},
	{[]string{"p(a b): a-b!x:5pa>0"}, api.Fault{Err: api.ErrBookName, Part: 0, At: 0}},
	{[]string{"p(a b): .", "q(c d): c-d!x:5p.c>0"}, api.Fault{Err: api.ErrBookName, Part: 1, At: 0}},
	{[]string{"r: b!x:5s>0"}, api.Fault{Err: api.ErrBookName, Part: 0, At: 0}},
	{[]string{"r: b!x:5r.b>0"}, api.Fault{Err: api.ErrBookName, Part: 0, At: 0}},
	{[]string{"p(a b): .", "r: b!x:5p>0"}, api.Fault{Err: api.ErrBookName, Part: 1, At: 0}},
	{[]string{"p(a b): .", "r: b!x:5p.r>0"}, api.Fault{Err: api.ErrBookName, Part: 1, At: 0}},
	{[]string{"p(a b): .", "rest: .", "r: b!x:5res>0"}, api.Fault{Err: api.ErrBookName, Part: 2, At: 0}},
	{[]string{"rest: .", "r: b!x:5rest2>0"}, api.Fault{Err: api.ErrBookName, Part: 1, At: 0}},
	// At the first arm of a point or turn or at a later one, at the first point or turn or at a later one, reachable or not.
	{[]string{"p(a b): a-b!x:5p.a>1 b-a!x>2,y>0,z:5p>2,w:5none>0 ."}, api.Fault{Err: api.ErrBookName, Part: 0, At: 1}},
	{[]string{"p(a b): a-b!x>1 . a-b!x:5none>1 a-b!y:5none>1"}, api.Fault{Err: api.ErrBookName, Part: 0, At: 2}},
	{[]string{"r: a?x>2 . b!y:5r>0,x:5none>1"}, api.Fault{Err: api.ErrBookName, Part: 0, At: 2}},
	{[]string{"r: .", "s: . b!x:5r>0 b!x:5t>0 b!x:5u>0"}, api.Fault{Err: api.ErrBookName, Part: 1, At: 2}},
	// The protocols come before the local types, and the earlier ones before the later ones.
	{[]string{"p(a b): a-b!x>0", "q(a b): . . . a-b!x:5none>0", "r: b!x:5none>0"}, api.Fault{Err: api.ErrBookName, Part: 1, At: 3}},
	{[]string{"r: b!x:5none>0", "p(a b): a-b!x>1 . a-b!x:5none>0"}, api.Fault{Err: api.ErrBookName, Part: 0, At: 2}},
	{[]string{"p(a b): .", "r: . b!x:5none>0", "s: b!x:5none>0"}, api.Fault{Err: api.ErrBookName, Part: 1, At: 1}},
	// Two faults of different kinds: the steps go one after the other over all parts.
	{[]string{"p(a b): .", "p(a b): .", "r: ."}, api.Fault{Err: api.ErrBookTwice, Part: 1, At: -1}},
	{[]string{"p(a b): .", "p(a b): .", "r: "}, api.Fault{Err: api.ErrBookForm, Part: 2, At: -1}},
	{[]string{"p(c a b): a-b!x>1,y>2 . b-c!z>1", "q(a b): .", "q: ."}, api.Fault{Err: api.ErrBookTwice, Part: 2, At: -1}},
	{[]string{"p(a b): a-b!x:5none>0", "q(c a b): a-b!x>1,y>2 . b-c!z>1"}, api.Fault{Err: api.ErrBookRole, Part: 1, At: 0}},
	{[]string{"p(a b c): a-b!x:5none>1,y>2 . b-c!z>1"}, api.Fault{Err: api.ErrBookRole, Part: 0, At: 2}},
}

func TestFaults(t *testing.T) {
	for _, c := range refusals {
		ps, ls := parts(c.parts...)
		if b, f := book.Of(ps, ls); f != c.want || !sketch.Same(b, api.Book{}) {
			t.Errorf("P9.2: Of(%q) = %v, %v, want %v", c.parts, b, f, c.want)
		}
		check(t, ps, ls)
	}
}

// many has so many protocols of one point and local types of one turn.
func many(protocols, locals int) ([]api.Protocol, []api.Local) {
	var ps []api.Protocol
	var ls []api.Local
	for i := range protocols {
		ps = append(ps, sketch.Protocol("p"+strconv.Itoa(i), "a b", "."))
	}
	for i := range locals {
		ls = append(ls, sketch.Local("l"+strconv.Itoa(i), "."))
	}
	return ps, ls
}

func TestNumbersOfProtocolsAndLocals(t *testing.T) {
	for protocols := range 9 {
		for locals := range 15 {
			ps, ls := many(protocols, locals)
			b, f := check(t, ps, ls)
			want := api.Fault{Err: api.ErrBookForm, Part: -1, At: -1}
			if protocols <= api.MaxProtocols && locals <= api.MaxLocals {
				want = api.Fault{}
			}
			if f != want || f == (api.Fault{}) && len(b.Nodes) != 2*protocols+locals {
				t.Errorf("P9.2: Of %d protocols and %d local types: %v, %v", protocols, locals, b, f)
			}
		}
	}
	// Too many come before all else, whatever they are.
	for _, n := range [][2]int{{7, 0}, {0, 13}, {7, 13}, {6, 13}, {7, 12}, {1000, 0}, {0, 1000}} {
		for _, ps := range [][]api.Protocol{make([]api.Protocol, n[0]), slices.Repeat([]api.Protocol{sketch.Protocol("p", "a b", "a-b!x:5none>0")}, n[0])} {
			for _, ls := range [][]api.Local{make([]api.Local, n[1]), slices.Repeat([]api.Local{sketch.Local("p", "b!x:5none>0")}, n[1])} {
				if _, f := check(t, ps, ls); f != (api.Fault{Err: api.ErrBookForm, Part: -1, At: -1}) {
					t.Errorf("P9.2: Of %d protocols and %d local types: %v", n[0], n[1], f)
				}
			}
		}
	}
}

// ring is a protocol in which a sends to b forever, at so many points one after the other. The roles a and b have as many turns each, and each other role one.
func ring(name, roles string, points int) api.Protocol {
	var text []string
	for i := range points {
		text = append(text, "a-b!x>"+strconv.Itoa((i+1)%points))
	}
	return sketch.Protocol(name, roles, strings.Join(text, " "))
}

// rings is a protocol of 23 points in which a tells b to which of two rings it goes, on which b tells c and d in turn, forever. As c and d do not know the ring, and one is of 5 rounds and one of 6, each of them has 30 turns; b has 23, and a has 2.
func rings(name string) api.Protocol {
	text := []string{"a-b!l>1,r>11"}
	for i := range 22 {
		next := i + 2
		if i == 9 {
			next = 1
		} else if i == 21 {
			next = 11
		}
		text = append(text, []string{"b-c", "b-d"}[i%2]+"!x>"+strconv.Itoa(next))
	}
	return sketch.Protocol(name, "a b c d", strings.Join(text, " "))
}

const ringsNodes = 85

// cycle is a local type of so many turns, all reachable, and behind them so many that are not.
func cycle(name string, turns, beyond int) api.Local {
	var text []string
	for i := range turns {
		text = append(text, "q?x:4>"+strconv.Itoa((i+1)%turns))
	}
	for range beyond {
		text = append(text, "q!y>0")
	}
	return sketch.Local(name, strings.Join(text, " "))
}

// cycles are so many local types of so many turns each.
func cycles(n, turns, beyond int) []api.Local {
	var ls []api.Local
	for i := range n {
		ls = append(ls, cycle("l"+strconv.Itoa(i), turns, beyond))
	}
	return ls
}

func TestNumbersOfNodes(t *testing.T) {
	four := []api.Protocol{rings("k0"), rings("k1"), rings("k2"), rings("k3")}
	six := func(roles string, points int) []api.Protocol {
		return append(slices.Clone(four), ring("p", "a b", 15), ring("q", roles, points))
	}
	for _, c := range []struct {
		ps    []api.Protocol
		ls    []api.Local
		nodes int
		part  int
	}{
		{nil, cycles(10, 40, 0), 400, 0},
		{nil, append(cycles(9, 40, 0), cycle("r", 20, 20), cycle("s", 20, 0)), 400, 0},
		{nil, append(cycles(9, 40, 0), cycle("r", 20, 20), cycle("s", 21, 0)), 0, 10},
		{nil, append(cycles(10, 40, 0), sketch.Local("r", ".")), 0, 10},
		{nil, append(cycles(10, 40, 0), sketch.Local("r", "."), cycle("s", 40, 0)), 0, 10},
		{nil, append(cycles(11, 36, 4), cycle("r", 4, 36)), 400, 0},
		{nil, append(cycles(11, 36, 4), cycle("r", 5, 35)), 0, 11},
		{nil, append(cycles(11, 36, 0), cycle("r", 40, 0)), 0, 11},
		{nil, cycles(12, 1, 39), 12, 0},
		{[]api.Protocol{ring("p", "a b", 20)}, cycles(9, 40, 0), 400, 0},
		{[]api.Protocol{ring("p", "a b", 20)}, append(cycles(9, 40, 0), sketch.Local("r", ".")), 0, 10},
		{[]api.Protocol{ring("p", "a b c", 20)}, cycles(9, 40, 0), 0, 9},
		{[]api.Protocol{ring("p", "a b c d e", 17), sketch.Protocol("q", "b a c", ".")}, cycles(9, 40, 0), 400, 0},
		{[]api.Protocol{ring("p", "a b c d e", 17), sketch.Protocol("q", "b a c d", ".")}, cycles(9, 40, 0), 0, 10},
		{four, nil, 4 * ringsNodes, 0},
		{append(slices.Clone(four), rings("p")), nil, 0, 4},
		{append(slices.Clone(four), rings("p"), rings("q")), cycles(12, 40, 0), 0, 4},
		{append(slices.Clone(four), ring("p", "a b", 5), rings("q")), nil, 0, 5},
		{six("a b", 15), nil, 400, 0},
		{six("a b c", 15), nil, 0, 5},
		{six("c a b", 15), nil, 0, 5},
		{six("a b", 16), nil, 0, 5},
		{six("a b", 15), cycles(1, 1, 0), 0, 6},
		{six("a b", 15), cycles(12, 1, 39), 0, 6},
		{six("a b", 14), cycles(2, 1, 3), 400, 0},
		{six("a b", 14), cycles(3, 1, 3), 0, 8},
		{six("c a b", 14), cycles(2, 1, 3), 0, 7},
	} {
		b, f := check(t, c.ps, c.ls)
		want := api.Fault{}
		if c.nodes == 0 {
			want = api.Fault{Err: api.ErrBookLarge, Part: c.part, At: -1}
		}
		if f != want || len(b.Nodes) != c.nodes {
			t.Errorf("P9.2: Of(%v, %v): %d nodes, %v, want %d, %v", c.ps, c.ls, len(b.Nodes), f, c.nodes, want)
		}
	}
}

// kinds are the kinds of faults that one part can have, each with what makes it at a part, and in an order in which all of them can be made one after the other.
var kinds = []struct {
	err api.Errno
	put func(ps []api.Protocol, ls []api.Local, part int) api.Fault
}{
	{api.ErrBookRole, func(ps []api.Protocol, ls []api.Local, part int) api.Fault {
		if part < len(ps) {
			ps[part].Points = sketch.Protocol("", "", "a-b!x>1,y>2 . b-c!z>1").Points
		}
		return api.Fault{Err: api.ErrBookRole, Part: part, At: 2}
	}},
	{api.ErrBookName, func(ps []api.Protocol, ls []api.Local, part int) api.Fault {
		f := api.Fault{Err: api.ErrBookName, Part: part}
		if part < len(ps) {
			f.At = len(ps[part].Points)
			ps[part].Points = append(ps[part].Points, sketch.Protocol("", "", "a-b!w:5none>0").Points...)
		} else {
			l := &ls[part-len(ps)]
			f.At = len(l.Turns)
			l.Turns = append(l.Turns, sketch.Local("", "b!w:5none>0").Turns...)
		}
		return f
	}},
	{api.ErrBookTwice, func(ps []api.Protocol, ls []api.Local, part int) api.Fault {
		if part < len(ps) {
			ps[part].Name = ps[0].Name
		} else {
			ls[part-len(ps)].Name = ps[0].Name
		}
		return api.Fault{Err: api.ErrBookTwice, Part: part, At: -1}
	}},
	{api.ErrBookForm, func(ps []api.Protocol, ls []api.Local, part int) api.Fault {
		if part < len(ps) {
			ps[part].Points = append(ps[part].Points, sketch.Protocol("", "", "a-a!x>0").Points...)
		} else {
			l := &ls[part-len(ps)]
			l.Turns = append(l.Turns, sketch.Local("", "end!x>0").Turns...)
		}
		return api.Fault{Err: api.ErrBookForm, Part: part, At: -1}
	}},
}

// first is the fault of the earlier step, or of two of one step that of the earlier part.
func first(f, g api.Fault) api.Fault {
	if g.Err < f.Err || g.Err == f.Err && g.Part < f.Part {
		return g
	}
	return f
}

// spot is a kind of fault and a part.
type spot struct{ kind, part int }

// spots are all kinds of faults at all parts, of which these many are protocols, that can have them.
func spots(parts, protocols int) []spot {
	var l []spot
	for i, x := range kinds {
		for part := range parts {
			if x.err == api.ErrBookRole && part >= protocols || x.err == api.ErrBookTwice && part == 0 {
				continue
			}
			l = append(l, spot{i, part})
		}
	}
	return l
}

// Of each two faults, of the same kind or not and at the same part or not, the right one comes first; also where there are too many nodes besides.
func TestTwoFaults(t *testing.T) {
	good := []string{"p(a b c): a-b!x>1 .", "q(a b c): a-b!x:5p.a>1,y>0 .", "s(a b c): .", "r: b!x>0", "r2: . .", "r3: b?x:5r>1 ."}
	all := spots(6, 3)
	for i, x := range all {
		for _, y := range all[i:] {
			for _, more := range [][]api.Local{nil, cycles(9, 40, 0), cycles(1, 40, 0)} {
				ps, ls := parts(good...)
				ps[2] = rings("s")
				ls = append(ls, more...)
				want := kinds[x.kind].put(ps, ls, x.part)
				if y != x {
					want = first(want, kinds[y.kind].put(ps, ls, y.part))
				}
				if _, f := check(t, ps, ls); f != want {
					t.Errorf("P9.2: Of(%v, %v) is refused with %v, want %v", ps, ls, f, want)
				}
			}
		}
	}
}

// A fault of each kind comes before too many nodes, in front of it and behind it.
func TestTooManyNodesComeLast(t *testing.T) {
	large := func() ([]api.Protocol, []api.Local) {
		var ps []api.Protocol
		for i := range 6 {
			ps = append(ps, ring("p"+strconv.Itoa(i), "a b c", 20))
		}
		return ps, cycles(12, 39, 0)
	}
	ps, ls := large()
	if _, f := check(t, ps, ls); f != (api.Fault{Err: api.ErrBookLarge, Part: 9, At: -1}) {
		t.Errorf("P9.2: Of too many nodes: %v", f)
	}
	for _, x := range kinds {
		for _, part := range []int{1, 5, 6, 9, 17} {
			if x.err == api.ErrBookRole && part > 5 {
				continue
			}
			ps, ls := large()
			want := x.put(ps, ls, part)
			if _, f := check(t, ps, ls); f != want {
				t.Errorf("P9.2: Of too many nodes and a fault %v: %v", want, f)
			}
		}
	}
}

func TestRingsAreAsLongAsTheySay(t *testing.T) {
	all, _, e := project.All(rings("p"))
	if e != api.OK || len(all) != 4 {
		t.Fatal("rings are refused:", e)
	}
	for i, want := range []int{2, 23, 30, 30} {
		if len(all[i].Turns) != want {
			t.Errorf("%s has %d turns, want %d", all[i].Name, len(all[i].Turns), want)
		}
	}
}
