package under_test

import (
	"strings"
	"testing"

	"repartee/api"
	"repartee/sketch"
	"repartee/under"
)

// isUnder tells for each node (a word) of which nodes (its digits) it is a subtype (1) or not (0).
var isUnder = []struct{ what, nodes, want string }{
	{"the document's example, a Send", "b!x>2,y>2 b!x>2 .", "110 010 001"},
	{"the document's example, a Recv", "b?x>2 b?x>2,y>2 .", "110 010 001"},
	{"no node", "", ""},
	{"one End", ".", "1"},
	{"two Ends", ". .", "11 11"},
	{"one loop", "b!x>0", "1"},

	{"an End and a Send", ". b!x>1", "10 01"},
	{"an End and a Recv", ". b?x>1", "10 01"},
	{"an End and what leads there", ". b!x>0 b?x>0", "100 010 001"},
	{"a Send and a Recv", "b!x>2 b?x>2 .", "100 010 001"},
	{"a Send and a Recv that go on", "b!x>0 b?x>1", "10 01"},
	{"a Send and a Recv that go on crosswise", "b!x>1 b?x>0", "10 01"},
	{"a Send and a Recv with more labels and with fewer", "b!x>3,y>3 b?x>3 b?x>3,y>3 .", "1000 0110 0010 0001"},
	{"Sends with other Peers", "b!x>2 c!x>2 .", "100 010 001"},
	{"Recvs with other Peers", "b?x>2 c?x>2 .", "100 010 001"},
	{"Peers of which one begins like the other", "b!x>3 bb!x>3 b2!x>3 .", "1000 0100 0010 0001"},
	{"Sends with other Peers and more labels", "b!x>2,y>2 c!x>2 .", "100 010 001"},
	{"Recvs with other Peers and fewer labels", "b?x>2 c?x>2,y>2 .", "100 010 001"},

	{"a Send whose labels are the same", "b!x>2,y>2 b!x>2,y>2 .", "110 110 001"},
	{"a Send whose labels are fewer", "b!x>2 b!x>2,y>2 .", "100 110 001"},
	{"a Send whose labels are neither", "b!x>2,y>2 b!x>2,z>2 .", "100 010 001"},
	{"a Send whose labels are all others", "b!x>2 b!y>2 .", "100 010 001"},
	{"a Send whose labels are all others, and more", "b!x>2,y>2 b!z>2 .", "100 010 001"},
	{"a Send with each of three labels and with all", "b!x>4,y>4,z>4 b!x>4 b!y>4 b!z>4 .", "11110 01000 00100 00010 00001"},
	{"a Send with two of three labels each", "b!x>4,y>4,z>4 b!x>4,y>4 b!x>4,z>4 b!y>4,z>4 .", "11110 01000 00100 00010 00001"},
	{"a Send with one, two and three labels", "b!y>3 b!x>3,y>3 b!x>3,y>3,z>3 .", "1000 1100 1110 0001"},
	{"a Send with six labels and the last of them", "b!a>2,b>2,c>2,d>2,e>2,f>2 b!f>2 .", "110 010 001"},
	{"a Send with six labels and six of which one is another", "b!a>2,b>2,c>2,d>2,e>2,f>2 b!a>2,b>2,c>2,d>2,e>2,g>2 .", "100 010 001"},
	{"a Send whose label begins like the other", "b!x>3 b!x2>3 b!xx>3 .", "1000 0100 0010 0001"},
	{"a Send whose labels join alike", "b!x>2,yz>2 b!xy>2,z>2 .", "100 010 001"},
	{"a Recv whose labels are the same", "b?x>2,y>2 b?x>2,y>2 .", "110 110 001"},
	{"a Recv whose labels are more", "b?x>2,y>2 b?x>2 .", "100 110 001"},
	{"a Recv whose labels are neither", "b?x>2,y>2 b?x>2,z>2 .", "100 010 001"},
	{"a Recv whose labels are all others", "b?x>2 b?y>2 .", "100 010 001"},
	{"a Recv whose labels are all others, and fewer", "b?z>2 b?x>2,y>2 .", "100 010 001"},
	{"a Recv with each of three labels and with all", "b?x>4,y>4,z>4 b?x>4 b?y>4 b?z>4 .", "10000 11000 10100 10010 00001"},
	{"a Recv with two of three labels each", "b?x>4,y>4,z>4 b?x>4,y>4 b?x>4,z>4 b?y>4,z>4 .", "10000 11000 10100 10010 00001"},
	{"a Recv with one, two and three labels", "b?y>3 b?x>3,y>3 b?x>3,y>3,z>3 .", "1110 0110 0010 0001"},
	{"a Recv with six labels and the last of them", "b?a>2,b>2,c>2,d>2,e>2,f>2 b?f>2 .", "100 110 001"},
	{"a Recv whose label begins like the other", "b?x>3 b?x2>3 b?xx>3 .", "1000 0100 0010 0001"},

	{"a common label whose Kinds differ", "b!x>2 b!x:1>2 .", "100 010 001"},
	{"a common label whose Kinds differ, of a Recv", "b?x:3>2 b?x:4>2 .", "100 010 001"},
	{"a common label with data and with a Chan", "b!x:5.2>2 b!x:1>2 .", "100 010 001"},
	{"a common label with nothing and with a Chan", "b?x:5.2>2 b?x>2 .", "100 010 001"},
	{"the first common label's Kinds differ", "b!x:2>2,y:1>2 b!x:1>2,y:1>2 .", "100 010 001"},
	{"the last common label's Kinds differ", "b?x:1>2,y:2>2 b?x:1>2,y:1>2 .", "100 010 001"},
	{"a common label's Kinds differ beside more labels", "b!x:2>2,y:1>2 b!x:1>2 .", "100 010 001"},
	{"a common label's Kinds differ beside fewer labels", "b?x:2>2 b?x:1>2,y:2>2 .", "100 010 001"},
	{"a label whose Kinds differ that is not common, the first", "b!w:3>2,x:1>2 b!x:1>2 .", "110 010 001"},
	{"a label whose Kinds differ that is not common, the last", "b!x:1>2,y:3>2 b!x:1>2 .", "110 010 001"},
	{"labels whose Kinds differ that are not common, of a Recv", "b?y:4>3 b?w:5.3>3,x:1>3,y:4>3,z>3 b?x:1>3,y:4>3 .", "1110 0100 0110 0001"},
	{"labels with the Kinds of each other", "b!x:1>2,y:2>2 b!x:2>2,y:1>2 .", "100 010 001"},

	{"wrong after one label", "b!x>2 b!x>3 c!y>4 c!z>4 .", "10000 01000 00100 00010 00001"},
	{"wrong after one label, where one of them ends", "b!x>2 b!x>1 .", "100 010 001"},
	{"right one way after one label", "b!x>2 b!x>3 c!y>4,z>4 c!y>4 .", "11000 01000 00110 00010 00001"},
	{"right one way after one label that is received", "b?x>2 b?x>3 c!y>4,z>4 c!y>4 .", "11000 01000 00110 00010 00001"},
	{"right the other way after one label", "b!x>2 b!x>3 c?y>4,z>4 c?y>4 .", "10000 11000 00100 00110 00001"},
	{"wrong after the first of two labels", "b!x>2,y>3 b!x>3,y>3 . c!x>3", "1000 0100 0010 0001"},
	{"wrong after the last of two labels", "b?x>2,y>2 b?x>2,y>3 . c!x>3", "1000 0100 0010 0001"},
	{"wrong after the middle of three labels", "b!x>2,y>2,z>2 b!x>2,y>3,z>2 . c!x>3", "1000 0100 0010 0001"},
	{"wrong after a label that is not common, of a Send", "b!x>2,y>3 b!x>2 . c!x>3", "1100 0100 0010 0001"},
	{"wrong after a label that is not common, of a Recv", "b?y>2 b?x>3,y>2,z>0 . c!x>3", "1100 0100 0010 0001"},
	{"right at once, and each way wrong after another label", "b!x>2,y>3 b!x>3,y>2 c!p>4,q>4 c!p>4 .", "10000 01000 00110 00010 00001"},
	{"more labels, but wrong behind the common one", "b!x>2,y>3 b!x>3 . c!x>3", "1000 0100 0010 0001"},
	{"more labels at first and fewer later", "b!x>2,y>2 b!x>3 b!p>4 b!p>4,q>4 .", "10000 01000 00100 00110 00001"},
	{"wrong after two labels", "b!x>2 b!x>3 b!x>4 b!x>5 . c!x>5", "100000 010000 001000 000100 000010 000001"},
	{"right one way after three labels", "b!x>2 b!x>3 c?y>4 c?y>5 d!z>6 d!z>7 e!p>8,q>8 e!p>8 .", "110000000 010000000 001100000 000100000 000011000 000001000 000000110 000000010 000000001"},
	{"wrong after several labels", "b!x>1 b!x>2 b!x>3 b!x>4 .", "10000 01000 00100 00010 00001"},

	{"a Send turns the pair of the Ats", "b!x:5.2>4 b!x:5.3>4 c!p>4,q>4 c!p>4 .", "10000 11000 00110 00010 00001"},
	{"a Recv does not turn the pair of the Ats", "b?x:5.2>4 b?x:5.3>4 c!p>4,q>4 c!p>4 .", "11000 01000 00110 00010 00001"},
	{"a Send turns the pair of the Ats, which receive", "b!x:5.2>4 b!x:5.3>4 c?p>4,q>4 c?p>4 .", "11000 01000 00100 00110 00001"},
	{"a Recv does not turn the pair of the Ats, which receive", "b?x:5.2>4 b?x:5.3>4 c?p>4,q>4 c?p>4 .", "10000 11000 00100 00110 00001"},
	{"the Ats are wrong both ways", "b!x:5.2>3 b!x:5.3>3 c!p>3 .", "1000 0100 0010 0001"},
	{"the Ats are equal", "b!x:5.2>2 b!x:5.3>3 . .", "1100 1100 0011 0011"},
	{"the At and the Next crosswise", "b!x:5.2>3 b!x:5.3>2 . c!x>3", "1000 0100 0010 0001"},
	{"the Ats of the last label are wrong", "b?x:5.2>2,y:5.2>2 b?x:5.2>2,y:5.3>2 . c!x>2", "1000 0100 0010 0001"},
	{"the Ats of the first label are wrong", "b?x:5.2>2,y:5.2>2 b?x:5.3>2,y:5.2>2 . c!x>2", "1000 0100 0010 0001"},
	{"the Ats of a label that is not common are wrong", "b?y:5.2>2 b?x:5.3>2,y:5.2>2 . c!x>2", "1100 0100 0010 0001"},
	{"Ats right one way and Nexts right the same way", "b!x:5.3>2 b!x:5.2>3 c!p>4,q>4 c!p>4 .", "11000 01000 00110 00010 00001"},
	{"Ats right one way and Nexts right the other way", "b!x:5.2>2 b!x:5.3>3 c!p>4,q>4 c!p>4 .", "10000 01000 00110 00010 00001"},

	{"a Chan within a Chan, sent and sent", "b!x:5.2>6 b!x:5.3>6 c!y:5.4>6 c!y:5.5>6 d!p>6,q>6 d!p>6 .", "1100000 0100000 0010000 0011000 0000110 0000010 0000001"},
	{"a Chan within a Chan, sent and received", "b!x:5.2>6 b!x:5.3>6 c?y:5.4>6 c?y:5.5>6 d!p>6,q>6 d!p>6 .", "1000000 1100000 0011000 0001000 0000110 0000010 0000001"},
	{"a Chan within a Chan, received and sent", "b?x:5.2>6 b?x:5.3>6 c!y:5.4>6 c!y:5.5>6 d!p>6,q>6 d!p>6 .", "1000000 1100000 0010000 0011000 0000110 0000010 0000001"},
	{"a Chan within a Chan, received and received", "b?x:5.2>6 b?x:5.3>6 c?y:5.4>6 c?y:5.5>6 d!p>6,q>6 d!p>6 .", "1100000 0100000 0011000 0001000 0000110 0000010 0000001"},
	{"a Chan behind a label of a Chan", "b!x:5.2>6 b!x:5.3>6 c!y>4 c!y>5 d!z:5.7>6 d!z:5.8>6 . e!p>6,q>6 e!p>6", "110000000 010000000 001000000 001100000 000010000 000011000 000000100 000000011 000000001"},
	{"a chain of Ats", "b!x:5.1>3 b!x:5.2>3 b!x:5.3>3 .", "1000 0100 0010 0001"},

	{"cycles of one and of two", "b!x>0 b!x>2 b!x>1", "111 111 111"},
	{"cycles of one and of two, where the one says more", "b!x>0,y>0 b!x>2 b!x>1", "111 011 011"},
	{"cycles of one and of two, where one of the two says more", "b!x>0 b!x>2,y>2 b!x>1", "100 110 101"},
	{"cycles of two and of three", "b!x>1 b!x>0 b!x>3 b!x>4 b!x>2", "11111 11111 11111 11111 11111"},
	{"cycles of two and of three, where one hears more", "b?x>1 b?x>0 b?x>3 b?x>4,y>4 b?x>2", "11111 11111 00100 00010 00001"},
	{"cycles of two and of three that do not agree", "b!x>1 b?y>0 b!x>3 b?y>4 b!x>2", "10000 01000 00100 00010 00001"},
	{"cycles of two and of four", "b!x>1 b?y>0 b!x>3 b?y>4 b!x>5 b?y>2,z>2", "101010 010101 001000 000100 000010 000001"},
	{"cycles of the same length that begin at other nodes", "b!x>1,y>1 b?x>0 b?x>3,y>3 b!x>2", "1001 0110 0010 0001"},
	{"a way into a cycle", "b!x>1 b!x>2 b!x>3 b!x>2", "1111 1111 1111 1111"},
	{"a cycle that may be left", "b!x>0,y>2 b!x>1 .", "110 010 001"},
	{"a cycle that may be left, heard", "b?x>0,y>2 b?x>1 .", "100 110 001"},
	{"a cycle that may be left, which sends and hears", "b!x>1,y>4 c?x>0 b!x>3 c?x>2,y>4 .", "10100 01010 00100 00010 00001"},
	{"cycles that are left at other nodes", "b!x>1,y>4 b!x>0,y>4 b!x>3,y>4 b!x>2,y>5 . c!x>5", "110000 110000 001000 000100 000010 000001"},

	{"a cycle that goes through an At", "b!x:5.1>2 b!x:5.0>2 .", "110 110 001"},
	{"a cycle of one that goes through an At, and one of two", "b!x:5.0>3 b!x:5.2>3 b!x:5.1>3 .", "1110 1110 1110 0001"},
	{"a sent cycle through an At, turned at each round", "b!x:5.0>2,y>2 b!x:5.1>2 .", "100 010 001"},
	{"a sent cycle through two Ats, turned to itself", "b!x:5.1>2,y>2 b!x:5.0>2 .", "110 010 001"},
	{"a received cycle through an At", "b?x:5.0>2 b?x:5.1>2,y>2 .", "110 010 001"},
	{"a received cycle through two Ats", "b?x:5.1>2 b?x:5.0>2,y>2 .", "100 010 001"},
	{"a cycle through Ats and Nexts", "b!x:5.1>0 b!x:5.0>1", "11 11"},
	{"a cycle through an At that goes on elsewhere", "b!x:5.0>2 b!x:5.2>2 .", "100 010 001"},
	{"an endless type within itself, and one that says more", "b!x:5.1>0,y>0 b!x:5.0>1", "11 01"},
}

// rows is what Is says of all pairs of nodes of b, in the words of the table.
func rows(b api.Book) string {
	var l []string
	for x := range b.Nodes {
		row := ""
		for y := range b.Nodes {
			if under.Is(b, x, y) {
				row += "1"
			} else {
				row += "0"
			}
		}
		l = append(l, row)
	}
	return strings.Join(l, " ")
}

func TestIsByHand(t *testing.T) {
	for _, c := range isUnder {
		b := sketch.Book("", c.nodes)
		if got := rows(b); got != c.want {
			t.Errorf("P11.1: %s: of the nodes %s Is says %s, want %s", c.what, c.nodes, got, c.want)
		}
		check(t, b)
	}
}

// Each pair of Kinds is told apart, as what each common label carries, and no label that is not common counts.
func TestKindsOfWhatIsCarried(t *testing.T) {
	for i := range 6 {
		for j := range 6 {
			for k := range 3 {
				for _, nodes := range []string{"b!x>2,y>2,z>2 b!x>2,y>2,z>2 .", "b?x>2,y>2,z>2 b?x>2,y>2,z>2 ."} {
					b := sketch.Book("", nodes)
					b.Nodes[0].Arms[k].Sort.Kind, b.Nodes[1].Arms[k].Sort.Kind = i, j
					if under.Is(b, 0, 1) != (i == j) || under.Is(b, 1, 0) != (i == j) {
						t.Errorf("P11.1: Is of nodes whose label %d carries the Kinds %d and %d", k, i, j)
					}
					check(t, b)
				}
			}
			b := sketch.Book("", "b!w>3,x>3,y>3,z>3 b!x>3,z>3 b?x>3,z>3 . b?w>3,x>3,y>3,z>3")
			for _, k := range []int{0, 2} {
				b.Nodes[0].Arms[k].Sort.Kind, b.Nodes[4].Arms[k].Sort.Kind = i, j
			}
			if !under.Is(b, 0, 1) || !under.Is(b, 2, 4) {
				t.Errorf("P11.1: Is of nodes with labels that carry the Kinds %d and %d and are not common", i, j)
			}
			check(t, b)
		}
	}
}

// One node has some of six labels and the other has others: all choices of both.
func TestAllChoicesOfLabels(t *testing.T) {
	var b api.Book
	for _, kind := range []int{api.Send, api.Recv} {
		for labels := 1; labels < 64; labels++ {
			n := api.Node{Kind: kind, Peer: "p"}
			for i, label := range strings.Split("abcdef", "") {
				if labels>>i&1 > 0 {
					n.Arms = append(n.Arms, api.Edge{Label: label, Sort: api.Sort{Kind: i % 5}, Next: 126})
				}
			}
			b.Nodes = append(b.Nodes, n)
		}
	}
	b.Nodes = append(b.Nodes, api.Node{})
	for x := 1; x < 64; x++ {
		for y := 1; y < 64; y++ {
			if under.Is(b, x-1, y-1) != (x&y == y) {
				t.Errorf("P11.1: Is of Sends with the labels %06b and %06b", x, y)
			}
			if under.Is(b, x+62, y+62) != (x&y == x) {
				t.Errorf("P11.1: Is of Recvs with the labels %06b and %06b", x, y)
			}
			if under.Is(b, x-1, y+62) || under.Is(b, x+62, y-1) {
				t.Errorf("P11.1: Is of a Send and a Recv with the labels %06b and %06b", x, y)
			}
		}
	}
}

func TestIndicesThatAreNone(t *testing.T) {
	for _, nodes := range []string{"", ".", ". .", "b!x>1 b!x>0", "b!x:5.0>0", "b?x>0,y:5.1>2 . b?x>0"} {
		b := sketch.Book("", nodes)
		n := len(b.Nodes)
		for _, x := range []int{-1, n} {
			for _, y := range []int{-1, n} {
				checkNotUnder(t, b, x, y)
				checkHolds(t, b, [][2]int{{x, y}}, false)
			}
			for y := range n {
				checkNotUnder(t, b, x, y)
				checkNotUnder(t, b, y, x)
				checkHolds(t, b, [][2]int{{x, y}}, false)
				checkHolds(t, b, [][2]int{{y, x}}, false)
			}
		}
		check(t, b)
	}
}

// What is under what does not depend on the Names and Roots of a valid book.
func TestNamesDoNotMatter(t *testing.T) {
	for _, c := range isUnder {
		b := sketch.Book("", c.nodes)
		for i := range b.Nodes {
			b.Names, b.Roots = []string{"", "a", "p.a"}, []int{len(b.Nodes) - 1, i, 0}
			if got := rows(b); got != c.want {
				t.Errorf("P11.1: %s: Is of %v says %s, want %s", c.what, b, got, c.want)
			}
		}
	}
}

func TestInvalidBooks(t *testing.T) {
	for _, b := range sketch.Invalid() {
		checkInvalid(t, b)
	}
	// An index just outside of a book is no node there; with one node more it is.
	for _, nodes := range []string{"b!x>1", "b!x:5.1>0", ". b!x>2", ". b?x>0,y:5.2>1"} {
		checkInvalid(t, sketch.Book("", nodes))
		check(t, sketch.Book("", nodes+" ."))
	}
}
