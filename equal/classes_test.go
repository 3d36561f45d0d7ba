package equal_test

import (
	"math/rand"
	"slices"
	"strconv"
	"strings"
	"testing"

	"repartee/api"
	"repartee/equal"
	"repartee/sketch"
)

var classesOf = []struct{ what, nodes, want string }{
	{"the document's example", "b!x>1 b!x>0", "0 0"},
	{"no node", "", ""},
	{"one end", ".", "0"},
	{"ends", ". . .", "0 0 0"},
	{"one loop", "b!x>0", "0"},
	{"loops", "b!x>0 b!x>1 b!x>2", "0 0 0"},
	{"an end and a loop", ". b!x>1", "0 1"},

	{"the Kind alone", "b!x>0 b?x>1", "0 1"},
	{"the Kind alone, with the same Next", "b!x>2 b?x>2 .", "0 1 2"},
	{"the Kind alone, crosswise", "b!x>1 b?x>0", "0 1"},
	{"the Peer alone", "b!x>0 c!x>1 b?x>2 c?x>3", "0 1 2 3"},
	{"the Peer alone, one beginning like the other", "b!x>0 bb!x>1 b2!x>2 b!x>3", "0 1 2 0"},
	{"the only label", "b!x>0 b!y>1", "0 1"},
	{"the first label", "b!w>0,y>0 b!x>1,y>1", "0 1"},
	{"the last label", "b!x>0,y>0 b!x>1,z>1", "0 1"},
	{"the middle label", "b?a>0,x>0,z>0 b?a>1,y>1,z>1", "0 1"},
	{"a label that begins like the other", "b!x>0 b!xx>1 b!x2>2", "0 1 2"},
	{"the number of labels, one more behind", "b!x>0 b!x>1,y>1", "0 1"},
	{"the number of labels, one less behind", "b!x>0,y>0 b!x>1", "0 1"},
	{"the number of labels, one more before", "b!y>0 b!x>1,y>1", "0 1"},
	{"the number of labels, one between", "b!x>0,z>0 b!x>1,y>1,z>1", "0 1"},
	{"the number of labels, five and six", "b!a>0,b>0,c>0,d>0,e>0 b!a>1,b>1,c>1,d>1,e>1,f>1", "0 1"},

	{"after one label", "b!x>2 b!x>3 c!x>2 d!x>3", "0 1 2 3"},
	{"after one label, one of them ends", "b!x>2 b!x>1 .", "0 1 2"},
	{"after the first of two labels", "b!x>2,y>3 b!x>3,y>3 . c!x>3", "0 1 2 3"},
	{"after the last of two labels", "b!x>2,y>2 b!x>2,y>3 . c!x>3", "0 1 2 3"},
	{"after the middle of three labels", "b!x>2,y>2,z>2 b!x>2,y>3,z>2 . c!x>3", "0 1 2 3"},
	{"where two labels lead, the other way round", "b!x>2,y>3 b!x>3,y>2 . c!x>3", "0 1 2 3"},
	{"after two labels", "b!x>2 b!x>3 b!x>4 b!x>5 . c!x>5", "0 1 2 3 4 5"},
	{"after several labels", "b!x>1 b!x>2 b!x>3 b!x>4 .", "0 1 2 3 4"},
	{"after several labels, from the other side", ". b!x>0 b!x>1 b!x>2 b!x>3", "0 1 2 3 4"},
	{"after several labels, each another", "b!v>2 b!v>3 c?w>4 c?w>5 d!x>6 d!x>7 e?y>8 e?y>9 . f!z>9", "0 1 2 3 4 5 6 7 8 9"},
	{"after several labels, one way alone", "b!x>2,y>0 b!x>3,y>1 b!x>4,y>2 b!x>5,y>3 . c!x>4", "0 1 2 3 4 5"},
	{"three of a kind that part one by one", "b!x>3 b!x>4 b!x>5 c!x>6 c!x>6 c!x>7 . d!x>7", "0 0 2 3 3 5 6 7"},

	{"by the Ats alone", "b!x:5.2>0 b!x:5.3>1 . c!x>3", "0 1 2 3"},
	{"by the Ats alone, with the same Next", "b!x:5.2>2 b!x:5.3>2 . c!x>2", "0 1 2 3"},
	{"by the Ats of the last label alone", "b?x:5.2>2,y:5.2>2 b?x:5.2>2,y:5.3>2 . c!x>2", "0 1 2 3"},
	{"by the Ats of the first label alone", "b?x:5.2>2,y:5.2>2 b?x:5.3>2,y:5.2>2 . c!x>2", "0 1 2 3"},
	{"Ats the other way round", "b?x:5.2>2,y:5.3>2 b?x:5.3>2,y:5.2>2 . c!x>2", "0 1 2 3"},
	{"the At and the Next the other way round", "b!x:5.2>3 b!x:5.3>2 . c!x>3", "0 1 2 3"},
	{"Ats beside a label that carries none", "b!x:1>2,y:5.2>2 b!x:1>2,y:5.3>2 . c!x>2", "0 1 2 3"},
	{"after the last of six labels", "b!a>2,b>2,c>2,d>2,e>2,f>2 b!a>2,b>2,c>2,d>2,e>2,f>3 . c!x>2", "0 1 2 3"},
	{"by the Ats of the last of six labels", "b!a>2,b>2,c>2,d>2,e>2,f:5.2>2 b!a>2,b>2,c>2,d>2,e>2,f:5.3>2 . c!x>2", "0 1 2 3"},
	{"by the Ats of a later node", "b!x>2 b!x>3 c!y:5.4>2 c!y:5.5>3 . d!z>5", "0 1 2 3 4 5"},
	{"by the Ats of a much later node", "b!x>1 b!x>2 b!x:5.6>2 b!x>4 b!x>5 b!x:5.7>5 . c!x>7", "0 1 2 3 4 5 6 7"},
	{"by a label behind an At", "b!x:5.2>6 b!x:5.3>6 c!y>4 c!y>5 d!x>4 e!x>5 .", "0 1 2 3 4 5 6"},
	{"by an At behind an At", "b!x:5.2>6 b!x:5.3>6 c!y:5.4>6 c!y:5.5>6 d!x>4 e!x>5 .", "0 1 2 3 4 5 6"},
	{"a chain of Ats", "b!x:5.1>4 b!x:5.2>4 b!x:5.3>4 b!x:5.4>4 .", "0 1 2 3 4"},
	{"Ats at nodes that are equal", "b!x:5.2>0 b!x:5.3>1 c!x>2 c!x>2", "0 0 2 2"},
	{"what carries none in a book whose node 0 is none's equal", "e!x:1>0 b!x:1>3 b!x:1>4 . .", "0 1 1 3 3"},

	{"a cycle of one and a cycle of two", "b!x>0 b!x>2 b!x>1", "0 0 0"},
	{"a cycle of two and a cycle of three", "b!x>1 b!x>0 b!x>3 b!x>4 b!x>2", "0 0 0 0 0"},
	{"a cycle of two and a cycle of four that agree", "b!x>1 b?y>0 b!x>3 b?y>4 b!x>5 b?y>2", "0 1 0 1 0 1"},
	{"a cycle of two and a cycle of three that do not", "b!x>1 b?y>0 b!x>3 b?y>4 b!x>2", "0 1 2 3 4"},
	{"a cycle of two that begins at its other node", "b!x>1 b?y>0 b?y>3 b!x>2", "0 1 1 0"},
	{"a cycle of six that goes round twice", "b!x>1 b!y>2 b!z>3 b!x>4 b!y>5 b!z>0", "0 1 2 0 1 2"},
	{"a way into a cycle", "b!x>1 b!x>2 b!x>3 b!x>2", "0 0 0 0"},
	{"a way into another cycle", "b!x>1 c!x>2 b!x>3 c!x>2 b!x>5 c!x>0", "0 1 0 1 0 1"},
	{"a cycle with a way out, unlike one without", "b!x>0,y>2 b!x>1,y>1 .", "0 1 2"},
	{"cycles that are left at other nodes", "b!x>1,y>6 b!x>2,y>6 b!x>0,y>6 b!x>4,y>6 b!x>5,y>6 b!x>3,y>7 . c!x>7", "0 0 0 3 4 5 6 7"},

	{"a cycle that goes through an At", "b!x:5.1>2 b!x:5.0>2 .", "0 0 2"},
	{"a cycle of one that goes through an At, and one of two", "b!x:5.0>3 b!x:5.2>3 b!x:5.1>3 .", "0 0 0 3"},
	{"a cycle of Ats and Nexts", "b!x:5.1>0 b!x:5.0>1", "0 0"},
	{"a cycle that goes through Ats and Nexts in turn", "b!x:5.1>4 c?y>0 b!x:5.3>4 c?y>2 .", "0 1 0 1 4"},
	{"cycles through Ats that do not agree", "b!x:5.1>5 b!x:5.0>5 b!x:5.3>5 b!x:5.4>5 c!x:5.2>5 .", "0 0 2 3 4 5"},
	{"an At to the node and an At to the end", "b!x:5.0>2 b!x:5.2>2 .", "0 1 2"},

	{"a node that is equal to itself alone", "b!x>0 b!x>0 b?x>0 b!x>1", "0 0 2 0"},
	{"the least is not first among its nodes' targets", "b!x>3 . b!x>1 .", "0 1 0 1"},
	{"classes that alternate", ". b!x>0 . b!x>2 . b!x>0", "0 1 0 1 0 1"},
	{"classes in blocks", ". . . b!x>0 b!x>1 b!x>2", "0 0 0 3 3 3"},

	{"a Peer and a label that join alike", "ab!c>0 a!bc>1", "0 1"},
	{"a Peer and a label that join alike, behind an equal pair", "b!x>0 b!x>1 ab?cd>2 abc?d>3 a?bcd>4", "0 0 2 3 4"},
	{"labels that join alike", "a!b>0,cd>0 a!bc>1,d>1", "0 1"},
	{"labels that join to one", "a!b>0,c>0 a!bc>1", "0 1"},
	{"a Peer and labels that join alike", "a!b>0,c>0 ab!c>1", "0 1"},
	{"a label and a Kind that join alike", "a!x1>0 a!x:1>1 a!x10>2", "0 1 2"},
	{"labels and Kinds that join alike", "a!x:1>0,y>0 a!x1y>1 a!x1y0>2 a!x>3,y1>3", "0 1 2 3"},
	{"Peers, Kinds and labels that join alike", "b!x:1>0,y:1>0 b!x1y:1>1 b1x!y:1>2", "0 1 2"},
}

func TestClassesByHand(t *testing.T) {
	for _, c := range classesOf {
		b, want := sketch.Book("", c.nodes), sketch.Numbers(c.want)
		if got := equal.Classes(b); !slices.Equal(got, want) {
			t.Errorf("P10.1: %s: Classes of %s = %v, want %s", c.what, c.nodes, got, c.want)
		}
		for x := -1; x <= len(want); x++ {
			for y := -1; y <= len(want); y++ {
				is := x >= 0 && y >= 0 && x < len(want) && y < len(want) && want[x] == want[y]
				if equal.Same(b, x, y) != is {
					t.Errorf("P10.1: %s: Same of %s, %d and %d = %v", c.what, c.nodes, x, y, !is)
				}
			}
		}
		check(t, b)
	}
}

// What is equal does not depend on where the nodes stand.
func TestOrderOfNodes(t *testing.T) {
	r := rand.New(rand.NewSource(1))
	for _, c := range classesOf {
		b := sketch.Book("", c.nodes)
		for range 10 {
			order := r.Perm(len(b.Nodes))
			s := sketch.Reorder(b, order)
			check(t, s)
			for x := range b.Nodes {
				for y := range b.Nodes {
					if equal.Same(s, order[x], order[y]) != equal.Same(b, x, y) {
						t.Fatalf("P10.1: Same of nodes %d and %d of %s in the order %v", x, y, c.nodes, order)
					}
				}
			}
		}
	}
}

// Each pair of Kinds is told apart, as what each label of a node carries.
func TestKindsOfWhatIsCarried(t *testing.T) {
	for i := range 6 {
		for j := range 6 {
			for k := range 3 {
				b := sketch.Book("", "b?x>2,y>2,z>2 b?x>2,y>2,z>2 .")
				b.Nodes[0].Arms[k].Sort.Kind, b.Nodes[1].Arms[k].Sort.Kind = i, j
				if equal.Same(b, 0, 1) != (i == j) {
					t.Errorf("P10.1: Same of nodes whose label %d carries the Kinds %d and %d = %v", k, i, j, i != j)
				}
				check(t, b)
			}
			b := sketch.Book("", "b!x:0>0 b!x:0>1")
			b.Nodes[0].Arms[0].Sort.Kind, b.Nodes[1].Arms[0].Sort.Kind = i, j
			check(t, b)
		}
	}
}

// star is a book of so many different ends of ways, each with a Peer of its own, and these nodes behind them.
func star(n int, nodes string) api.Book {
	var l []string
	for i := range n {
		l = append(l, "p"+strconv.Itoa(i)+"!x>"+strconv.Itoa(i))
	}
	return sketch.Book("", strings.Join(l, " ")+" "+nodes)
}

// Nodes that lead to themselves alone are equal if they match locally, whatever their Peers, labels and Kinds read like together.
func TestNamesThatJoinAlike(t *testing.T) {
	r := rand.New(rand.NewSource(7))
	word := func() string { return pick(r, "a", "b") + pick(r, "", "", "0", "1", "a", "b", "1a", "b0") }
	for range 30 {
		b := made(400, func(i int) api.Node {
			n := api.Node{Kind: 1 + r.Intn(2), Peer: word()}
			labels := slices.Compact(slices.Sorted(slices.Values([]string{word(), word(), word()})))
			for _, label := range labels[:1+r.Intn(len(labels))] {
				n.Arms = append(n.Arms, api.Edge{Label: label, Sort: api.Sort{Kind: r.Intn(2)}, Next: i})
			}
			return n
		})
		checkWith(t, b, each(400, func(i int) int {
			return slices.IndexFunc(b.Nodes, func(n api.Node) bool { return matches(n, b.Nodes[i]) })
		}))
	}
}

// The numbers of classes are kept apart where one that follows another would read like two others.
func TestNumbersThatJoinAlike(t *testing.T) {
	for _, nodes := range []string{
		"b!x>1,y>11 b!x>11,y>1",
		"b!x:5.1>11 b!x:5.11>1",
		"b!x:5.11>1 b!x:5.1>11",
		"b!x>1,y>12 b!x>11,y>2",
		"b!x>10,y>1 b!x>1,y>1 b!x>1,y>0 b!x>11,y>0",
		"b!x>1,y>2,z>3 b!x>12,y>3,z>3 b!x>1,y>23,z>3 b!x>1,y>2,z>3",
		"b!x:5.1>2,y>3 b!x:5.12>3,y>1 b!x:5.1>23,y>1",
		"b!x:1>11,y:5.1>1 b!x:1>1,y:5.11>1 b!x:1>11,y:5.1>1",
		"b!x>100,y>1 b!x>1,y>100 b!x>10,y>10 b!x>255,y>0 b!x>256,y>0 b!x>0,y>256 b!x>0,y>1 b!x>1,y>0",
	} {
		check(t, star(260, nodes))
	}
	// Nodes 1 and 11 have the classes 1 and 11, and lead on to 12 and 2.
	for _, edges := range [][]string{{"x>12", "x>2"}, {"x:5.12>0", "x:5.2>0"}, {"x:5.12>1", "x:5.2>1"}} {
		b := star(13, "")
		b.Nodes[1].Arms, b.Nodes[11].Arms = sketch.Edges(edges[0]), sketch.Edges(edges[1])
		check(t, b)
	}
}

// Nodes that lead to nodes without an equal are equal if they lead to the same ones.
func TestNodesThatLeadToTheSame(t *testing.T) {
	r := rand.New(rand.NewSource(8))
	some := func() int { return pick(r, 0, 1, 2, 11, 12, 21, 22, 110, 111, 112, 121, 211) }
	for range 10 {
		b := star(212, "")
		for range 188 {
			n := sketch.Node("b!x>0,y>0")
			n.Arms[0].Next, n.Arms[1].Next = some(), some()
			if r.Intn(2) > 0 {
				n.Arms[1].Sort = api.Sort{Kind: api.Chan, At: some()}
			}
			b.Nodes = append(b.Nodes, n)
		}
		checkWith(t, b, each(400, func(i int) int {
			return slices.IndexFunc(b.Nodes, func(n api.Node) bool { return sketch.SameNodes([]api.Node{n}, b.Nodes[i:i+1]) })
		}))
	}
}

func TestIndicesThatAreNone(t *testing.T) {
	for _, nodes := range []string{"", ".", ". .", "b!x>1 b!x>0", "b!x:5.0>0"} {
		b := sketch.Book("", nodes)
		n := len(b.Nodes)
		for _, x := range []int{-1, n} {
			for _, y := range []int{-1, n} {
				if equal.Same(b, x, y) {
					t.Errorf("P10.1: Same of %q with the indices %d and %d", nodes, x, y)
				}
			}
			for y := range n {
				if equal.Same(b, x, y) || equal.Same(b, y, x) {
					t.Errorf("P10.1: Same of %q with the index %d on one side", nodes, x)
				}
			}
		}
		check(t, b)
	}
}

func TestInvalidBooks(t *testing.T) {
	for _, b := range sketch.Invalid() {
		checkInvalid(t, b)
	}
	// An index just outside of a book is no node there; with one node more it is.
	for _, nodes := range []string{"b!x>1", "b!x:5.1>0", ". b!x>2", ". b?x>0,y:5.2>1"} {
		checkInvalid(t, sketch.Book("", nodes))
		check(t, sketch.Book("", nodes+" ."))
	}
}
