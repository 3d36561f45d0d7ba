package under_test

import (
	"slices"
	"testing"

	"repartee/api"
	"repartee/book"
	"repartee/sketch"
	"repartee/under"
)

// pairsUnder tells what Pairs returns for the first of the pairs.
var pairsUnder = []struct{ what, nodes, want string }{
	{"the document's example, a Send", "b!x>2,y>2 b!x>2 .", "0/1 2/2"},
	{"the document's example, a Recv", "b?x>2 b?x>2,y>2 .", "0/1 2/2"},
	{"an End", ".", "0/0"},
	{"two Ends", ". .", "0/1"},
	{"two Ends, the other way round", ". .", "1/0"},
	{"a node under itself", "b!x>0", "0/0"},
	{"a node under itself, with what it asks for", "b!x:5.2>1 c?y>0 .", "0/0 2/2 1/1"},

	{"several labels in ascending order", "b!w>2,x>3,y>4 b!w>7,x>6,y>5 . . . . . .", "0/1 2/7 3/6 4/5"},
	{"several labels in ascending order, where the nodes descend", "b?w>4,x>3,y>2 b?w>5,x>6,y>7 . . . . . .", "0/1 4/5 3/6 2/7"},
	{"all six labels", "b!a>7,b>6,c>5,d>4,e>3,f>2 b!a>2,b>3,c>4,d>5,e>6,f>7 . . . . . .", "0/1 7/2 6/3 5/4 4/5 3/6 2/7"},
	{"labels that are not common, of a Send", "b!v>3,w>2,x>3,y>4,z>5 b!w>4,y>2 . . . .", "0/1 2/4 4/2"},
	{"labels that are not common, of a Recv", "b?w>4,y>2 b?v>3,w>2,x>3,y>4,z>5 . . . .", "0/1 4/2 2/4"},
	{"pair by pair", "b!x>2,y>3 b!x>4,y>5 c!z>6 . c!z>7 . . .", "0/1 2/4 3/5 6/7"},
	{"pair by pair, two by two", "b!x>2,y>3 b!x>4,y>5 c!x>6,y>7 d!x>8,y>9 c!x>10,y>11 d!x>12,y>13 . . . . . . . .", "0/1 2/4 3/5 6/10 7/11 8/12 9/13"},
	{"one way longer than the other", "b!x>2,y>3 b!x>4,y>5 c!x>6 . c!x>7 . d!x>8 d!x>9 . .", "0/1 2/4 3/5 6/7 8/9"},

	{"a Chan's pair before the pair of the Nexts, turned by a Send", "b!x:5.2>3 b!x:5.4>5 . . . .", "0/1 4/2 3/5"},
	{"a Chan's pair before the pair of the Nexts, as it is by a Recv", "b?x:5.2>3 b?x:5.4>5 . . . .", "0/1 2/4 3/5"},
	{"a Chan's pair after the Nexts of the label before", "b!w>2,x:5.3>4,y>5 b!w>6,x:5.7>8,y>9 . . . . . . . .", "0/1 2/6 7/3 4/8 5/9"},
	{"Chans of several labels", "b?x:5.2>3,y:5.4>5 b?x:5.6>7,y:5.8>9 . . . . . . . .", "0/1 2/6 3/7 4/8 5/9"},
	{"a Chan's pair behind a Chan's pair", "b!x:5.2>3 b!x:5.4>5 c!y:5.6>7 . c!y:5.8>9 . . . . .", "0/1 4/2 3/5 6/8 9/7"},
	{"a received Chan's pair behind a sent Chan's pair", "b!x:5.2>3 b!x:5.4>5 c?y:5.6>7 . c?y:5.8>9 . . . . .", "0/1 4/2 3/5 8/6 9/7"},
	{"what carries data asks for no pair but that of the Nexts", ". b!x:1>3,y:2>4 b!x:1>5,y:2>6 . . . .", "1/2 3/5 4/6"},

	{"a pair that is met again, the first", "b!x>0,y>2 b!x>1,y>3 . .", "0/1 2/3"},
	{"a pair that is met again, by the next label", "b!x>2,y>2,z>4 b!x>3,y>3,z>5 . . . .", "0/1 2/3 4/5"},
	{"a pair that is met again, by a later pair", "b!x>2,y>3 b!x>4,y>5 c!z>3 . c!z>5 .", "0/1 2/4 3/5"},
	{"a pair that is met again as a Next, after it was a Chan's", "b?x:5.2>2 b?x:5.3>3 . .", "0/1 2/3"},
	{"a pair that is met again, at its first place", "b!x>2,y>3 b!x>5,y>6 c!y>4,z>3 . . c!y>7,z>6 . .", "0/1 2/5 3/6 4/7"},
	{"a cycle", "b!x>1 b!x>2 b!x>0", "0/1 1/2 2/0"},
	{"cycles of two and of three", "b!x>1 b!x>0 b!x>3 b!x>4 b!x>2", "0/2 1/3 0/4 1/2 0/3 1/4"},
	{"cycles of three and of two", "b!x>1 b!x>0 b!x>3 b!x>4 b!x>2", "2/0 3/1 4/0 2/1 3/0 4/1"},
	{"a pair of the same numbers", "b!x>2 b!x>2 c?y>0", "0/1 2/2 0/0"},

	{"the mirrored pair, by an At", "b!x:5.0>2 b!x:5.1>2 .", "0/1 1/0 2/2"},
	{"the mirrored pair, by a Next", "b!x>1 b!x>0", "0/1 1/0"},
	{"the mirrored pair, behind another one", "b!x:5.1>2 b!x:5.0>3 . .", "0/1 2/3"},
	{"both mirrored pairs", "b!x:5.0>2 b!x:5.1>3 b!x:5.2>0 b!x:5.3>1", "0/1 1/0 2/3 3/2"},
	{"a cycle that goes through an At", "b!x:5.1>2 b!x:5.0>2 .", "0/1 2/2"},
	{"a cycle that goes through an At, received", "b?x:5.1>2 b?x:5.0>2 .", "0/1 1/0 2/2"},
	{"a cycle through an At and a Next", "b!x:5.1>0,y>2 b!x:5.0>1,y>3 . .", "0/1 2/3"},
}

func TestPairsByHand(t *testing.T) {
	for _, c := range pairsUnder {
		b, want := sketch.Book("", c.nodes), pairsOf(c.want)
		l, is := under.Pairs(b, want[0][0], want[0][1])
		if !is || !slices.Equal(l, want) {
			t.Errorf("P11.2: %s: Pairs of %s and %v = %v, %v, want %v", c.what, c.nodes, want[0], l, is, want)
		}
		if !under.Is(b, want[0][0], want[0][1]) || !under.Holds(b, want) {
			t.Errorf("P11.3: %s: Is or Holds of %s and %v is false", c.what, c.nodes, want)
		}
		check(t, b)
	}
}

// Where x is not under y there are no pairs, however many of them are right before one is not.
func TestNoPairs(t *testing.T) {
	for _, c := range isUnder {
		b := sketch.Book("", c.nodes)
		for x := range b.Nodes {
			for y := range b.Nodes {
				if c.want[x*(len(b.Nodes)+1)+y] == '0' {
					checkNotUnder(t, b, x, y)
				}
			}
		}
	}
	// 100 pairs that are right, and one that is not.
	b := chain(200, func(i int) api.Node { return sketch.To(i+1, -1, "x") })
	b.Nodes[99], b.Nodes[199] = sketch.Node("b!x>0,y>0"), sketch.Node("c!x>0")
	checkNotUnder(t, b, 0, 100)
	b.Nodes[199] = sketch.Node("b!x>0,z>0")
	checkNotUnder(t, b, 0, 100)
	b.Nodes[199] = sketch.Node("b!x>100")
	if l, is := under.Pairs(b, 0, 100); !is || len(l) != 100 {
		t.Error("P11.2: of two cycles Pairs says", l, is)
	}
}

// The book of a program: a protocol in which a sends an end of the type wide, which says more than narrow.
func TestPairsOfAProgramsBook(t *testing.T) {
	arms := func(labels ...string) []api.Arm {
		var l []api.Arm
		for _, label := range labels {
			l = append(l, api.Arm{Label: label, Next: 1})
		}
		return l
	}
	local := func(name string, labels ...string) api.Local {
		return api.Local{Name: name, Turns: []api.Turn{{Kind: api.Send, Peer: "c", Arms: arms(labels...)}, {}}}
	}
	protocol := func(name, carried string) api.Protocol {
		give := arms("give")
		give[0].Carries = api.Carries{Kind: api.Chan, Name: carried}
		return api.Protocol{Name: name, Roles: []string{"a", "b"}, Points: []api.Point{{From: "a", To: "b", Arms: give}, {}}}
	}
	b, f := book.Of([]api.Protocol{protocol("p", "wide"), protocol("q", "narrow")}, []api.Local{local("wide", "x", "y"), local("narrow", "x")})
	if f != (api.Fault{}) {
		t.Fatal("the book has the fault", f)
	}
	root := func(name string) int {
		at, _ := book.Root(b, name)
		return at
	}
	for _, c := range []struct {
		x, y     string
		one, two bool
	}{{"wide", "narrow", true, false}, {"p.a", "q.a", false, true}, {"p.b", "q.b", true, false}, {"p.a", "p.b", false, false}, {"q.a", "q.a", true, true}} {
		if under.Is(b, root(c.x), root(c.y)) != c.one || under.Is(b, root(c.y), root(c.x)) != c.two {
			t.Errorf("P11.1: Is of %s and %s", c.x, c.y)
		}
	}
	w, n, p, q := root("wide"), root("narrow"), root("p.b"), root("q.b")
	if l, is := under.Pairs(b, p, q); !is || !slices.Equal(l, [][2]int{{p, q}, {w, n}, {p + 1, q + 1}, {w + 1, n + 1}}) {
		t.Error("P11.2: Pairs of p.b and q.b:", l, is)
	}
	check(t, b)
}
