package sketch_test

import (
	"slices"
	"testing"

	"repartee/api"
	"repartee/names"
	"repartee/sketch"
)

func TestLocal(t *testing.T) {
	got := sketch.Local("l", ". b!x>0,y:1>2 c?z:5p.a>1")
	want := api.Local{Name: "l", Turns: []api.Turn{
		{},
		{Kind: api.Send, Peer: "b", Arms: []api.Arm{{Label: "x"}, {Label: "y", Carries: api.Carries{Kind: api.Int}, Next: 2}}},
		{Kind: api.Recv, Peer: "c", Arms: []api.Arm{{Label: "z", Carries: api.Carries{Kind: api.Chan, Name: "p.a"}, Next: 1}}},
	}}
	if !sketch.SameLocal(got, want) {
		t.Errorf("Local = %v, want %v", got, want)
	}
	if !sketch.SameLocal(sketch.CopyLocal(got), want) || !sketch.SameLocal(sketch.RoomyLocal(got), want) {
		t.Error("a copy of the local type is another one")
	}
}

func TestProtocol(t *testing.T) {
	got := sketch.Protocol("p", "a b", ". a-b!x>0,y:1>2 b-a!z:5p.a>1")
	want := api.Protocol{Name: "p", Roles: []string{"a", "b"}, Points: []api.Point{
		{},
		{From: "a", To: "b", Arms: []api.Arm{{Label: "x"}, {Label: "y", Carries: api.Carries{Kind: api.Int}, Next: 2}}},
		{From: "b", To: "a", Arms: []api.Arm{{Label: "z", Carries: api.Carries{Kind: api.Chan, Name: "p.a"}, Next: 1}}},
	}}
	if !sketch.SameProtocol(got, want) {
		t.Errorf("Protocol = %v, want %v", got, want)
	}
	if !sketch.SameProtocol(sketch.CopyProtocol(got), want) || !sketch.SameProtocol(sketch.RoomyProtocol(got), want) {
		t.Error("a copy of the protocol is another one")
	}
}

// Each field makes a difference.
func TestSameLocal(t *testing.T) {
	l := []api.Local{{}, sketch.Local("l", "."), sketch.Local("m", ".")}
	for _, turns := range []string{".", ". .", "b!x>0", "b?x>0", "c!x>0", "b!y>0", "b!x>1", "b!x:1>0", "b!x:5p>0", "b!x:5q>0", "b!x>0,y>0"} {
		l = append(l, sketch.Local("", turns))
	}
	for i := range l {
		for j := range l {
			if sketch.SameLocal(l[i], l[j]) != (i == j) {
				t.Errorf("SameLocal(%v, %v) = %v", l[i], l[j], i != j)
			}
		}
	}
}

func TestSameProtocol(t *testing.T) {
	l := []api.Protocol{{}, sketch.Protocol("p", "", "."), sketch.Protocol("q", "", "."), sketch.Protocol("", "a b", "."), sketch.Protocol("", "b a", ".")}
	for _, points := range []string{".", ". .", "a-b!x>0", "b-a!x>0", "a-c!x>0", "c-b!x>0", "a-b!y>0", "a-b!x>1", "a-b!x:1>0", "a-b!x:5p>0", "a-b!x:5q>0", "a-b!x>0,y>0"} {
		l = append(l, sketch.Protocol("", "", points))
	}
	for i := range l {
		for j := range l {
			if sketch.SameProtocol(l[i], l[j]) != (i == j) {
				t.Errorf("SameProtocol(%v, %v) = %v", l[i], l[j], i != j)
			}
		}
	}
}

func TestSpoil(t *testing.T) {
	l, p, b := sketch.Local("l", "b!x>0 b?y>1"), sketch.Protocol("p", "a b", "a-b!x>0 b-a!y>1"), sketch.Book("a=0", "b!x>0 b?y>1")
	l2, p2, b2 := sketch.CopyLocal(l), sketch.CopyProtocol(p), sketch.Copy(b)
	arms := [][]api.Arm{l2.Turns[1].Arms, p2.Points[1].Arms}
	edges := b2.Nodes[1].Arms
	sketch.SpoilLocal(l2)
	sketch.SpoilProtocol(p2)
	sketch.Spoil(b2)
	if l2.Turns[1].Peer != "spoiled" || p2.Points[1].To != "spoiled" || p2.Roles[1] != "spoiled" || b2.Nodes[1].Peer != "spoiled" || b2.Names[0] != "spoiled" || b2.Roots[0] == 0 {
		t.Error("a list is not spoiled:", l2, p2, b2)
	}
	if arms[0][0].Label != "spoiled" || arms[1][0].Label != "spoiled" || edges[0].Label != "spoiled" {
		t.Error("arms or edges are not spoiled:", arms, edges)
	}
	if !sketch.SameLocal(l, sketch.Local("l", "b!x>0 b?y>1")) || !sketch.SameProtocol(p, sketch.Protocol("p", "a b", "a-b!x>0 b-a!y>1")) || !sketch.Same(b, sketch.Book("a=0", "b!x>0 b?y>1")) {
		t.Error("a copy shares its memory:", l, p, b)
	}
}

func TestRoomyLists(t *testing.T) {
	plain := []int{1, 2}
	l := sketch.RoomyList(plain, 3, 4)
	if !slices.Equal(l, plain) || !slices.Equal(sketch.BeyondList(l), []int{3, 4}) {
		t.Error("RoomyList =", l, "and beyond it", sketch.BeyondList(l))
	}
	sketch.SpoilList(l, 9)
	if !slices.Equal(l, []int{9, 9}) || !slices.Equal(sketch.BeyondList(l), []int{9, 9}) || !slices.Equal(plain, []int{1, 2}) {
		t.Error("SpoilList =", l, "and beyond it", sketch.BeyondList(l))
	}
	beyond := sketch.BeyondLocal(sketch.RoomyLocal(sketch.Local("", "b!x>0")))
	if len(beyond.Turns) != 3 || len(beyond.Turns[2].Arms) != 2 {
		t.Error("BeyondLocal =", beyond)
	}
	beyondP := sketch.BeyondProtocol(sketch.RoomyProtocol(sketch.Protocol("", "a", "a-b!x>0")))
	if len(beyondP.Roles) != 2 || len(beyondP.Points) != 3 || len(beyondP.Points[2].Arms) != 2 {
		t.Error("BeyondProtocol =", beyondP)
	}
}

func TestApart(t *testing.T) {
	const apart = "b!x>0 b!x>0 . b?y>1,z>0 ."
	if !sketch.ApartLocal(sketch.Local("", apart)) || !sketch.ApartProtocol(sketch.Protocol("", "", "a-b!x>0 . a-b!x>0,y>1")) || !sketch.Apart(sketch.Book("", apart)) {
		t.Error("lists that share no memory are not apart")
	}
	arms, edges := make([]api.Arm, 4), make([]api.Edge, 4)
	for _, parts := range [][2][2]int{{{0, 4}, {0, 4}}, {{0, 3}, {2, 4}}, {{0, 1}, {1, 2}}, {{3, 4}, {0, 4}}, {{0, 0}, {3, 4}}, {{0, 4}, {2, 2}}, {{1, 1}, {2, 2}}} {
		i, j := parts[0], parts[1]
		l := api.Local{Turns: []api.Turn{{Arms: arms[i[0]:i[1]]}, {}, {Arms: arms[j[0]:j[1]]}}}
		p := api.Protocol{Points: []api.Point{{Arms: arms[i[0]:i[1]]}, {}, {Arms: arms[j[0]:j[1]]}}}
		b := api.Book{Nodes: []api.Node{{Arms: edges[i[0]:i[1]]}, {}, {Arms: edges[j[0]:j[1]]}}}
		if sketch.ApartLocal(l) || sketch.ApartProtocol(p) || sketch.Apart(b) {
			t.Errorf("the pieces %v and %v of one list are apart", i, j)
		}
	}
}

func TestNames(t *testing.T) {
	for _, s := range sketch.Names() {
		if !names.May(s) {
			t.Errorf("%q is no name", s)
		}
	}
	for _, s := range sketch.NoNames() {
		if names.May(s) {
			t.Errorf("%q is a name", s)
		}
	}
}
