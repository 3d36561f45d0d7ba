package book_test

import (
	"slices"
	"testing"

	"repartee/api"
	"repartee/book"
)

// roomy is a copy of l with memory beyond its length, in which there is something that would count if it were read.
func roomy[T any](l []T, beyond ...T) []T {
	return append(slices.Clone(l), beyond...)[:len(l)]
}

// beyond is a copy of the next two in the memory beyond the length of a roomy list.
func beyond[T any](l []T) []T { return slices.Clone(l[len(l) : len(l)+2]) }

func roomyArms(l []api.Arm) []api.Arm {
	return roomy(l, armsOf("beyond:5beyond>0")[0], armsOf("x>-1")[0])
}

func roomyProtocols(ps []api.Protocol) []api.Protocol {
	more, _ := parts("beyond(a b): a-b!x:5beyond>0", "end(a): ")
	ps = roomy(ps, more...)
	for i := range ps {
		p := &ps[i]
		p.Roles = roomy(p.Roles, "beyond", "A")
		p.Points = roomy(p.Points, protocol("", "", "a-b!x:5beyond>0 a-a!x>0").Points...)
		for j := range p.Points {
			p.Points[j].Arms = roomyArms(p.Points[j].Arms)
		}
	}
	return ps
}

func roomyLocals(ls []api.Local) []api.Local {
	_, more := parts("beyond: b!x:5beyond>0", "end: ")
	ls = roomy(ls, more...)
	for i := range ls {
		ls[i].Turns = roomy(ls[i].Turns, local("", "b!x:5beyond>0 end!x>9").Turns...)
		for j := range ls[i].Turns {
			ls[i].Turns[j].Arms = roomyArms(ls[i].Turns[j].Arms)
		}
	}
	return ls
}

// beyondAll is what stands beyond the lists of roomy protocols and local types.
func beyondAll(ps []api.Protocol, ls []api.Local) ([]api.Protocol, []api.Local) {
	morePs, moreLs := copiedProtocols(beyond(ps)), copiedLocals(beyond(ls))
	for _, p := range ps {
		q := api.Protocol{Roles: beyond(p.Roles), Points: beyond(p.Points)}
		for _, x := range p.Points {
			q.Points = append(q.Points, api.Point{Arms: beyond(x.Arms)})
		}
		morePs = append(morePs, q)
	}
	for _, l := range ls {
		m := api.Local{Turns: beyond(l.Turns)}
		for _, x := range l.Turns {
			m.Turns = append(m.Turns, api.Turn{Arms: beyond(x.Arms)})
		}
		moreLs = append(moreLs, m)
	}
	return morePs, moreLs
}

// allParts are the parts of all tables.
func allParts() [][]string {
	var all [][]string
	for _, c := range books {
		all = append(all, c.parts)
	}
	for _, c := range refusals {
		all = append(all, c.parts)
	}
	return all
}

func TestNothingBeyondAListIsReadOrWritten(t *testing.T) {
	for _, texts := range allParts() {
		ps, ls := parts(texts...)
		want, wantFault := simpleOf(ps, ls)
		ps, ls = roomyProtocols(ps), roomyLocals(ls)
		ps2, ls2 := beyondAll(ps, ls)
		if b, f := check(t, ps, ls); f != wantFault || !equal(b, want) {
			t.Errorf("P0.4: memory beyond the lists of %q was read: %v, %v", texts, b, f)
		}
		ps3, ls3 := beyondAll(ps, ls)
		if !slices.EqualFunc(ps2, ps3, equalProtocol) || !slices.EqualFunc(ls2, ls3, equalLocal) {
			t.Errorf("P0.4: memory beyond the lists of %q was written: %v, %v", texts, ps3, ls3)
		}
	}
}

// roomyBook has something beyond each of its lists that would make it invalid, or valid if it is not.
func roomyBook(b api.Book) api.Book {
	b.Nodes = roomy(b.Nodes, api.Node{}, api.Node{Kind: 3})
	b.Names, b.Roots = roomy(b.Names, "~", "beyond"), roomy(b.Roots, 0, -1)
	for i := range b.Nodes {
		b.Nodes[i].Arms = roomy(b.Nodes[i].Arms, edgesOf("zz>0")[0], edgesOf("a>-1")[0])
	}
	return b
}

func beyondBook(b api.Book) api.Book {
	out := api.Book{Nodes: beyond(b.Nodes), Names: beyond(b.Names), Roots: beyond(b.Roots)}
	for _, n := range b.Nodes {
		out.Nodes = append(out.Nodes, api.Node{Arms: beyond(n.Arms)})
	}
	return out
}

func TestNothingBeyondTheListsOfABookIsReadOrWritten(t *testing.T) {
	all := slices.Clone(invalidBooks)
	for _, c := range books {
		all = append(all, booked(c.roots, c.nodes))
	}
	for _, plain := range all {
		b := roomyBook(plain)
		before := beyondBook(b)
		if got := checkBook(t, b); got != simpleMay(plain) {
			t.Errorf("P0.4: memory beyond the lists of %v was read", plain)
		}
		if at, is := book.Root(b, "~"); at != 0 || is {
			t.Errorf("P0.4: a name beyond those of %v was found", plain)
		}
		if !equal(beyondBook(b), before) {
			t.Errorf("P0.4: memory beyond the lists of %v was written", plain)
		}
	}
}

// spoil writes to all memory of a book, also to what an append would get.
func spoil(b api.Book) {
	all := b.Nodes[:cap(b.Nodes)]
	for i := range all {
		arms := all[i].Arms[:cap(all[i].Arms)]
		for j := range arms {
			arms[j] = api.Edge{Label: "spoiled", Next: -7}
		}
		all[i] = api.Node{Kind: 9, Peer: "spoiled"}
	}
	names, roots := b.Names[:cap(b.Names)], b.Roots[:cap(b.Roots)]
	for i := range names {
		names[i] = "spoiled"
	}
	for i := range roots {
		roots[i] = -7
	}
}

func TestBooksAreNewMemory(t *testing.T) {
	for _, c := range books {
		want := booked(c.roots, c.nodes)
		for _, plain := range []bool{true, false} {
			ps, ls := parts(c.parts...)
			if !plain {
				ps, ls = roomyProtocols(ps), roomyLocals(ls)
			}
			beforePs, beforeLs := copiedProtocols(ps), copiedLocals(ls)
			one, _ := book.Of(ps, ls)
			two, _ := book.Of(ps, ls)
			spoil(one)
			if !equal(two, want) {
				t.Errorf("P0.4: two books of %q share memory", c.parts)
			}
			if !slices.EqualFunc(ps, beforePs, equalProtocol) || !slices.EqualFunc(ls, beforeLs, equalLocal) {
				t.Errorf("P0.4: the book of %q shares its memory with the arguments", c.parts)
			}
			again, _ := book.Of(ps, ls)
			if !equal(again, want) {
				t.Errorf("P0.5: the book of %q is another one when it was made before", c.parts)
			}
		}
	}
}

// No two nodes of a book share memory: an arm that is added to one, or changed in it, is in no other.
func TestNodesOfABookShareNoMemory(t *testing.T) {
	for _, c := range books {
		want := booked(c.roots, c.nodes)
		for i := range want.Nodes {
			ps, ls := parts(c.parts...)
			b, _ := book.Of(ps, ls)
			arms := b.Nodes[i].Arms
			for j := range arms[:cap(arms)] {
				arms[:cap(arms)][j] = api.Edge{Label: "spoiled"}
			}
			b.Nodes[i].Arms = append(arms, api.Edge{Label: "added"})
			for k := range want.Nodes {
				if k != i && !slices.Equal(b.Nodes[k].Arms, want.Nodes[k].Arms) {
					t.Fatalf("P0.4: nodes %d and %d of the book of %q share memory", i, k, c.parts)
				}
			}
		}
	}
}

func TestNilAndEmptyListsAreTheSame(t *testing.T) {
	for _, texts := range allParts() {
		ps, ls := parts(texts...)
		want, wantFault := book.Of(ps, ls)
		for i := range ps {
			for j := range ps[i].Points {
				ps[i].Points[j].Arms = append([]api.Arm{}, ps[i].Points[j].Arms...)
			}
			ps[i].Points = append([]api.Point{}, ps[i].Points...)
		}
		for i := range ls {
			for j := range ls[i].Turns {
				ls[i].Turns[j].Arms = append([]api.Arm{}, ls[i].Turns[j].Arms...)
			}
			ls[i].Turns = append([]api.Turn{}, ls[i].Turns...)
		}
		if b, f := book.Of(append([]api.Protocol{}, ps...), append([]api.Local{}, ls...)); f != wantFault || !equal(b, want) {
			t.Errorf("P0.4: Of tells nil from an empty list in %q: %v, %v", texts, b, f)
		}
	}
	for _, b := range []api.Book{{}, {Nodes: []api.Node{}, Names: []string{}, Roots: []int{}}, {Nodes: []api.Node{{Arms: []api.Edge{}}}, Names: []string{}}, {Nodes: []api.Node{{}}, Roots: []int{}}} {
		if !checkBook(t, b) {
			t.Errorf("P0.4: May tells nil from an empty list in %v", b)
		}
	}
}
