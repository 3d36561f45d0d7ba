package book_test

import (
	"slices"
	"testing"

	"repartee/api"
	"repartee/book"
	"repartee/sketch"
)

func roomyProtocols(ps []api.Protocol) []api.Protocol {
	more, _ := parts("beyond(a b): a-b!x:5beyond>0", "end(a): ")
	return sketch.RoomyList(each(ps, sketch.RoomyProtocol), more...)
}

func roomyLocals(ls []api.Local) []api.Local {
	_, more := parts("beyond: b!x:5beyond>0", "end: ")
	return sketch.RoomyList(each(ls, sketch.RoomyLocal), more...)
}

// beyondAll is what stands beyond the lists of roomy protocols and local types.
func beyondAll(ps []api.Protocol, ls []api.Local) ([]api.Protocol, []api.Local) {
	morePs, moreLs := copiedProtocols(sketch.BeyondList(ps)), copiedLocals(sketch.BeyondList(ls))
	return append(morePs, each(ps, sketch.BeyondProtocol)...), append(moreLs, each(ls, sketch.BeyondLocal)...)
}

// allParts are the parts of all tables.
func allParts() [][]string {
	var all [][]string
	for _, c := range books {
		all = append(all, c.parts)
	}
	for _, c := range refusals {
		all = append(all, c.parts)
	}
	return all
}

func TestNothingBeyondAListIsReadOrWritten(t *testing.T) {
	for _, texts := range allParts() {
		ps, ls := parts(texts...)
		want, wantFault := simpleOf(ps, ls)
		ps, ls = roomyProtocols(ps), roomyLocals(ls)
		ps2, ls2 := beyondAll(ps, ls)
		if b, f := check(t, ps, ls); f != wantFault || !sketch.Same(b, want) {
			t.Errorf("P0.4: memory beyond the lists of %q was read: %v, %v", texts, b, f)
		}
		ps3, ls3 := beyondAll(ps, ls)
		if !slices.EqualFunc(ps2, ps3, sketch.SameProtocol) || !slices.EqualFunc(ls2, ls3, sketch.SameLocal) {
			t.Errorf("P0.4: memory beyond the lists of %q was written: %v, %v", texts, ps3, ls3)
		}
	}
}

func TestNothingBeyondTheListsOfABookIsReadOrWritten(t *testing.T) {
	all := slices.Clone(invalidBooks)
	for _, c := range books {
		all = append(all, sketch.Book(c.roots, c.nodes))
	}
	for _, plain := range all {
		b := sketch.Roomy(plain)
		before := sketch.Beyond(b)
		if got := checkBook(t, b); got != simpleMay(plain) {
			t.Errorf("P0.4: memory beyond the lists of %v was read", plain)
		}
		if at, is := book.Root(b, "~"); at != 0 || is {
			t.Errorf("P0.4: a name beyond those of %v was found", plain)
		}
		if !sketch.Same(sketch.Beyond(b), before) {
			t.Errorf("P0.4: memory beyond the lists of %v was written", plain)
		}
	}
}

func TestBooksAreNewMemory(t *testing.T) {
	for _, c := range books {
		want := sketch.Book(c.roots, c.nodes)
		for _, plain := range []bool{true, false} {
			ps, ls := parts(c.parts...)
			if !plain {
				ps, ls = roomyProtocols(ps), roomyLocals(ls)
			}
			beforePs, beforeLs := copiedProtocols(ps), copiedLocals(ls)
			one, _ := book.Of(ps, ls)
			two, _ := book.Of(ps, ls)
			sketch.Spoil(one)
			if !sketch.Same(two, want) {
				t.Errorf("P0.4: two books of %q share memory", c.parts)
			}
			if !slices.EqualFunc(ps, beforePs, sketch.SameProtocol) || !slices.EqualFunc(ls, beforeLs, sketch.SameLocal) {
				t.Errorf("P0.4: the book of %q shares its memory with the arguments", c.parts)
			}
			again, _ := book.Of(ps, ls)
			if !sketch.Same(again, want) {
				t.Errorf("P0.5: the book of %q is another one when it was made before", c.parts)
			}
		}
	}
}

// An arm that is added to one node, or changed in it, is in no other.
func TestNodesOfABookShareNoMemory(t *testing.T) {
	for _, c := range books {
		if b, _ := book.Of(parts(c.parts...)); !sketch.Apart(b) {
			t.Errorf("P0.4: nodes of the book of %q share memory", c.parts)
		}
	}
}

func TestNilAndEmptyListsAreTheSame(t *testing.T) {
	for _, texts := range allParts() {
		ps, ls := parts(texts...)
		want, wantFault := book.Of(ps, ls)
		for i := range ps {
			for j := range ps[i].Points {
				ps[i].Points[j].Arms = append([]api.Arm{}, ps[i].Points[j].Arms...)
			}
			ps[i].Points = append([]api.Point{}, ps[i].Points...)
		}
		for i := range ls {
			for j := range ls[i].Turns {
				ls[i].Turns[j].Arms = append([]api.Arm{}, ls[i].Turns[j].Arms...)
			}
			ls[i].Turns = append([]api.Turn{}, ls[i].Turns...)
		}
		if b, f := book.Of(append([]api.Protocol{}, ps...), append([]api.Local{}, ls...)); f != wantFault || !sketch.Same(b, want) {
			t.Errorf("P0.4: Of tells nil from an empty list in %q: %v, %v", texts, b, f)
		}
	}
	for _, b := range []api.Book{{}, {Nodes: []api.Node{}, Names: []string{}, Roots: []int{}}, {Nodes: []api.Node{{Arms: []api.Edge{}}}, Names: []string{}}, {Nodes: []api.Node{{}}, Roots: []int{}}} {
		if !checkBook(t, b) {
			t.Errorf("P0.4: May tells nil from an empty list in %v", b)
		}
	}
}
