package sketch_test

import (
	"slices"
	"testing"

	"repartee/api"
	"repartee/book"
	"repartee/sketch"
)

func TestBook(t *testing.T) {
	got := sketch.Book("p.a=1 rest=0", ". b!x>0,y:1>2 c?z:5.2>1")
	want := api.Book{Nodes: []api.Node{
		{},
		{Kind: api.Send, Peer: "b", Arms: []api.Edge{{Label: "x"}, {Label: "y", Sort: api.Sort{Kind: api.Int}, Next: 2}}},
		{Kind: api.Recv, Peer: "c", Arms: []api.Edge{{Label: "z", Sort: api.Sort{Kind: api.Chan, At: 2}, Next: 1}}},
	}, Names: []string{"p.a", "rest"}, Roots: []int{1, 0}}
	if !sketch.Same(got, want) {
		t.Errorf("Book = %v, want %v", got, want)
	}
	if !sketch.Same(sketch.Copy(got), want) || !sketch.Same(sketch.Roomy(got), want) {
		t.Error("a copy of the book is another one")
	}
	if !sketch.Same(sketch.Reorder(got, []int{2, 0, 1}), sketch.Book("p.a=0 rest=2", "b!x>2,y:1>1 c?z:5.1>0 .")) {
		t.Error("Reorder =", sketch.Reorder(got, []int{2, 0, 1}))
	}
}

// Each field makes a difference.
func TestSame(t *testing.T) {
	l := []api.Book{{}, sketch.Book("a=0", "."), sketch.Book("b=0", ".")}
	for _, nodes := range []string{".", ". .", "b!x>0", "b?x>0", "c!x>0", "b!y>0", "b!x>1", "b!x:1>0", "b!x:5>0", "b!x:5.1>0", "b!x>0,y>0"} {
		l = append(l, sketch.Book("", nodes))
	}
	l = append(l, sketch.Book("a=0", ". ."), sketch.Book("a=1", ". ."))
	for i := range l {
		for j := range l {
			if sketch.Same(l[i], l[j]) != (i == j) {
				t.Errorf("Same(%v, %v) = %v", l[i], l[j], i != j)
			}
		}
	}
}

func TestInvalid(t *testing.T) {
	for _, b := range sketch.Invalid() {
		if book.May(b) {
			t.Errorf("%v is valid", b)
		}
	}
}

func TestPlain(t *testing.T) {
	l := sketch.Plain(2, "x", "y")
	if want := 1 + 2*(7*7-1); len(l) != want {
		t.Error(len(l), "nodes, want", want)
	}
	for i, n := range l {
		if !book.May(api.Book{Nodes: []api.Node{n, {}}}) {
			t.Errorf("%v is not valid", n)
		}
		if slices.ContainsFunc(l[:i], func(m api.Node) bool { return sketch.SameNodes([]api.Node{m}, l[i:i+1]) }) {
			t.Errorf("%v comes twice", n)
		}
	}
}
