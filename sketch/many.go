package sketch

import (
	"math"
	"slices"
	"strings"

	"repartee/api"
)

// Plain returns all nodes of a book of n nodes that end, or send or receive some of the labels, with nothing or a Chan.
func Plain(n int, labels ...string) []api.Node {
	l := []api.Node{{}}
	for _, kind := range []int{api.Send, api.Recv} {
		for _, edges := range plainEdges(n, labels) {
			if len(edges) > 0 {
				l = append(l, api.Node{Kind: kind, Peer: "b", Arms: edges})
			}
		}
	}
	return l
}

// plainEdges returns all lists of edges of such nodes; the empty one is among them.
func plainEdges(n int, labels []string) [][]api.Edge {
	all := [][]api.Edge{nil}
	for _, label := range labels {
		var longer [][]api.Edge
		for _, edges := range all {
			longer = append(longer, edges)
			for next := range n {
				longer = append(longer, append(slices.Clone(edges), api.Edge{Label: label, Next: next}))
				for at := range n {
					sort := api.Sort{Kind: api.Chan, At: at}
					longer = append(longer, append(slices.Clone(edges), api.Edge{Label: label, Sort: sort, Next: next}))
				}
			}
		}
		all = longer
	}
	return all
}

// SmallNodes returns all nodes of a book of two nodes that end, or have one of these peers and one or both of the labels x and y.
func SmallNodes(peers ...string) []api.Node {
	l := []api.Node{{}}
	for _, sign := range []string{"!", "?"} {
		for _, peer := range peers {
			for _, arms := range strings.Fields("x>0 x>1 y>0 y>1 x>0,y>0 x>0,y>1 x>1,y>0 x>1,y>1") {
				l = append(l, Node(peer+sign+arms))
			}
		}
	}
	return l
}

// To returns a node that sends, with these labels, each with this Next, and with a Chan at this At if it is not negative.
func To(next, at int, labels ...string) api.Node {
	n := api.Node{Kind: api.Send, Peer: "b"}
	for _, label := range labels {
		e := api.Edge{Label: label, Next: next}
		if at >= 0 {
			e.Sort = api.Sort{Kind: api.Chan, At: at}
		}
		n.Arms = append(n.Arms, e)
	}
	return n
}

// Made returns a book of n nodes, in which node i is what build says.
func Made(n int, build func(i int) api.Node) api.Book {
	var b api.Book
	for i := range n {
		b.Nodes = append(b.Nodes, build(i))
	}
	return b
}

// OddIndices returns numbers that denote no node of b: the first two are just outside of it.
func OddIndices(b api.Book) []int {
	n := len(b.Nodes)
	return []int{-1, n, n + 1, -2, -n - 1, n + 400, 1 << 31, 1 << 32, 1<<32 + 1, -1 << 32, math.MinInt, math.MaxInt}
}

// Projectable returns protocols of two to five roles that are projectable to every role.
func Projectable() []api.Protocol {
	return []api.Protocol{
		Protocol("p", "a b", "."),
		Protocol("p", "a b", "a-b!x>1 ."),
		Protocol("p", "a b", "a-b!x>0"),
		Protocol("p", "a b", "a-b!x>1,y>2 b-a!x>0 ."),
		Protocol("p", "b a", "a-b!x>1,y>2 b-a!x>1,z>0 ."),
		Protocol("p", "a b", "a-b!x>1 b-a!y>2,w>3 a-b!x>0 ."),
		Protocol("p", "a b c", "a-b!x>1 b-c!y>2 c-a!z>0"),
		Protocol("p", "a b c", "a-b!x>1,y>2 b-c!x>3 b-c!y>3 ."),
		Protocol("p", "c a b", "a-b!x>1,y>2 b-c!x>0 b-c!y>3 ."),
		Protocol("p", "a b c", "a-b!x>1,y>2 a-c!x>3 a-c!y>4 b-c!p>0 c-b!q>5 ."),
		Protocol("p", "a b c d", "a-b!x>1 c-d!x>2 b-a!y>3 d-c!y>4 ."),
		Protocol("p", "a b c d e", "a-b!x>1 b-c!y>2 c-d!z>3 d-e!w>4 e-a!v>0"),
		Protocol("p", "a b c d e", "a-b!l>1,r>2 b-c!x>3 b-c!y>4 c-d!p>5 c-d!q>5 d-e!z>0"),
		Protocol("p", "e d c b a", "a-b!x>1 c-d!x>2 b-a!y>3 d-c!y>4 a-e!l>5,r>6 e-d!z>7 e-d!w>7 ."),
	}
}

// Invalid returns books of which each hurts one condition of chapter 9: as they are, with names, and ahead of nodes that are valid.
func Invalid() []api.Book {
	l := invalidNames()
	for _, nodes := range invalidNodes() {
		l = append(l, api.Book{Nodes: nodes})
		for _, more := range []string{"", ". . b!x>0"} {
			b := Book("a=0 b=0", more)
			b.Nodes = slices.Concat(nodes, b.Nodes)
			l = append(l, b)
		}
	}
	return l
}

// invalidNames are books whose Names or Roots are wrong.
func invalidNames() []api.Book {
	return []api.Book{
		Book("a=0 a=0", ". ."), Book("b=0 a=0", ". ."), Book("a=2", ". ."), Book("a=-1", ". ."), Book("a=0", ""),
		{Nodes: make([]api.Node, 2), Names: []string{"a"}}, {Nodes: make([]api.Node, 2), Roots: []int{0}}, {Names: []string{"a"}}, {Roots: []int{0}},
	}
}

// invalidNodes are the nodes of books of which one at least is wrong, or which are too many.
func invalidNodes() [][]api.Node {
	l := [][]api.Node{
		make([]api.Node, 401), slices.Repeat([]api.Node{Node("b!x>0")}, 401),
		{{Kind: 3}, {Kind: 3}}, {{Kind: -1}}, {{Peer: "b"}}, {{Arms: Edges("x>0")}}, {{Kind: api.Send, Peer: "b"}}, {{Kind: api.Recv, Arms: Edges("x>0")}},
	}
	for _, nodes := range []string{
		"B!x>0", "end?x>0", "b!X>0", "b!end>0", "b!>0", "b!y>0,x>0", "b!x>0,x>0", "b!a>0,b>0,c>0,d>0,e>0,f>0,g>0", "abcdefghijklm!x>0", "b!abcdefghijklm>0",
		"b!x>9", "b!x>-1", "b!x>0,y>9 .", "b!x:5.9>0", "b!x:5.-1>0", "b!x:1.1>0 .", "b!x:0.1>0 .", "b!x:6>0", "b!x:-1>0", ". . b!x>9", ". . b!x:4.-1>0",
	} {
		l = append(l, Book("", nodes).Nodes)
	}
	return l
}
