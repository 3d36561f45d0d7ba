package equal_test

import (
	"slices"
	"strconv"
	"testing"

	"repartee/api"
	"repartee/book"
	"repartee/equal"
	"repartee/sketch"
)

var shrunk = []struct{ what, roots, nodes, wantRoots, want string }{
	{"the empty book", "", "", "", ""},
	{"one end", "rest=0", ".", "rest=0", "."},
	{"the document's example", "p.a=1", "b!x>1 b!x>0", "p.a=0", "b!x>0"},
	{"nothing to leave out", "a=2 b=0", "b!x>1 c?y:5.2>0 .", "a=2 b=0", "b!x>1 c?y:5.2>0 ."},
	{"ends", "a=0 b=1 c=2", ". . .", "a=0 b=0 c=0", "."},
	{"the first of each class is kept", "a=1 b=3", ". b!x>2 . b!x>0", "a=1 b=1", ". b!x>0"},
	{"a kept node that leads to what is left out", "one=3 two=2 zero=4", ". b!x:5.4>3 b?y>0 b!x:5.0>1 .", "one=1 two=2 zero=0", ". b!x:5.0>1 b?y>0"},
	{"what stands behind what is left out", "a=5", "b!x>1 b!x>0 . . c!y>3 d?z:5.3>4", "a=3", "b!x>0 . c!y>1 d?z:5.1>2"},
	{"an At alone leads on", "a=0", "b!x:5.2>1 . b?x>3 .", "a=0", "b!x:5.2>1 . b?x>1"},
	{"all labels", "a=0", "b!u>0,v:1>2,w:2>3,x:3>4,y:4>2,z:5.4>1 . . . .", "a=0", "b!u>0,v:1>1,w:2>1,x:3>1,y:4>1,z:5.1>1 ."},
	{"what carries none has the At 0", "a=3", ". . b!x:3>1 b!x:3>2 b!x:3>3", "a=2", ". b!x:3>0 b!x:3>1 b!x:3>2"},
	{"two Names with one Root", "a=1 b=1", ". c!x>0", "a=1 b=1", ". c!x>0"},
	{"two Names with equal Roots", "a=2 b=1", ". c!x>0 c!x>0", "a=1 b=1", ". c!x>0"},
	{"two Names with one Root and two with Roots equal to it", "a=2 b=2 c=3 d=1", ". c!x>0 c!x>0 c!x>0", "a=1 b=1 c=1 d=1", ". c!x>0"},
	{"no Name", "", ". b!x>0 b!x>0", "", ". b!x>0"},
	{"nodes that no Root reaches", "a=4", "b!x>1 b!x>0 c!y>3 . .", "a=2", "b!x>0 c!y>2 ."},
	{"equal nodes of which a Root reaches the latter alone", "a=3", ". b!x>0 . b!x>2", "a=1", ". b!x>0"},
	{"nodes that no Root reaches, unlike all others", "a=0", ". b!x>2 b!y>1 . c?z:5.1>2", "a=0", ". b!x>2 b!y>1 c?z:5.1>2"},
	{"a cycle that goes through an At", "a=1", "b!x:5.1>2 b!x:5.0>2 .", "a=0", "b!x:5.0>1 ."},
	{"cycles of two lengths", "two=1 three=4", "b!x>1 b!x>0 b!x>3 b!x>4 b!x>2", "two=0 three=0", "b!x>0"},
	{"cycles of two and of four", "four=3 two=1", "b!x>1 b?y>0 b!x>3 b?y>4 b!x>5 b?y>2", "four=1 two=1", "b!x>1 b?y>0"},
}

func TestShrinkByHand(t *testing.T) {
	for _, c := range shrunk {
		b, want := sketch.Book(c.roots, c.nodes), sketch.Book(c.wantRoots, c.want)
		// The Names of a valid book are in ascending order.
		b.Names, b.Roots = inOrder(b)
		want.Names, want.Roots = inOrder(want)
		if got := equal.Shrink(b); !sketch.Same(got, want) {
			t.Errorf("P10.2: %s: Shrink(%v) = %v, want %v", c.what, b, got, want)
		}
		check(t, b)
	}
}

// The book of a program: a protocol in which a sends an end of a type that says y again and again, and two types that do so in one turn and in two.
func TestShrinkOfAProgramsBook(t *testing.T) {
	c := api.Carries{Kind: api.Chan, Name: "one"}
	p := api.Protocol{Name: "p", Roles: []string{"a", "b"}, Points: []api.Point{{From: "a", To: "b", Arms: []api.Arm{{Label: "x", Carries: c, Next: 1}}}, {}}}
	arms := func(next int) []api.Arm { return []api.Arm{{Label: "y", Next: next}} }
	one := api.Local{Name: "one", Turns: []api.Turn{{Kind: api.Send, Peer: "b", Arms: arms(0)}}}
	two := api.Local{Name: "two", Turns: []api.Turn{{Kind: api.Send, Peer: "b", Arms: arms(1)}, {Kind: api.Send, Peer: "b", Arms: arms(0)}}}
	three := api.Local{Name: "three", Turns: []api.Turn{{Kind: api.Send, Peer: "b", Arms: arms(1)}, {}}}
	b, f := book.Of([]api.Protocol{p}, []api.Local{one, two, three})
	if f != (api.Fault{}) {
		t.Fatal("the book has the fault", f)
	}
	if got := equal.Classes(b); !slices.Equal(got, sketch.Numbers("0 1 2 1 4 4 4 7 1")) {
		t.Errorf("P10.1: Classes(%v) = %v", b, got)
	}
	want := sketch.Book("one=3 p.a=0 p.b=2 three=4 two=3", "b!x:5.3>1 . a?x:5.3>1 b!y>3 b!y>1")
	if got := equal.Shrink(b); !sketch.Same(got, want) {
		t.Errorf("P10.2: Shrink(%v) = %v, want %v", b, got, want)
	}
	check(t, b)
}

// inOrder returns the Names of b in ascending order, with their Roots.
func inOrder(b api.Book) ([]string, []int) {
	names := slices.Sorted(slices.Values(b.Names))
	var roots []int
	for _, name := range names {
		roots = append(roots, b.Roots[slices.Index(b.Names, name)])
	}
	return names, roots
}

// Names are kept whatever they are: a valid book may have any strings there, and any number of them.
func TestNamesAreKept(t *testing.T) {
	b := sketch.Book("", "b!x>1 b!x>0 . .")
	b.Names, b.Roots = []string{"", "A", "a b", "a.b.c", "end", "\xff"}, []int{3, 2, 1, 0, 1, 3}
	check(t, b)
	if s := equal.Shrink(b); !slices.Equal(s.Names, b.Names) || !slices.Equal(s.Roots, []int{1, 1, 0, 0, 0, 1}) {
		t.Error("P10.2: the Names and Roots are", s.Names, s.Roots)
	}
	b.Names, b.Roots = nil, nil
	for i := range 1000 {
		b.Names, b.Roots = append(b.Names, strconv.Itoa(1000+i)), append(b.Roots, i%4)
	}
	check(t, b)
}

// Nodes of one class are left out whether a Root reaches them or not, and the Roots do not change what is equal.
func TestRootsDoNotMatterToClasses(t *testing.T) {
	for _, c := range classesOf {
		b := sketch.Book("", c.nodes)
		want := equal.Shrink(b)
		for i := range b.Nodes {
			b.Names, b.Roots = []string{"a"}, []int{i}
			check(t, b)
			if s := equal.Shrink(b); !sketch.SameNodes(s.Nodes, want.Nodes) {
				t.Errorf("P10.2: the nodes of Shrink(%v) are %v, want %v", b, s.Nodes, want.Nodes)
			}
			if classes := equal.Classes(b); !slices.Equal(classes, sketch.Numbers(c.want)) {
				t.Errorf("P10.1: Classes(%v) = %v", b, classes)
			}
		}
	}
}
