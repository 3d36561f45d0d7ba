package book_test

import (
	"math"
	"slices"
	"strconv"
	"strings"
	"testing"

	"repartee/api"
	"repartee/book"
	"repartee/sketch"
)

var (
	goodNames = sketch.Names()
	badNames  = sketch.NoNames()
	oddInts   = []int{math.MinInt, -1 << 32, -6, -2, -1, 6, 7, 256, 1 << 32, 1<<32 + 1, 1<<32 + 2, 1<<32 + 5, math.MaxInt}
)

// hosts are valid books for a node to be put in, so that each has four nodes: before, between and behind others, with names and without.
func hosts(x api.Node) []api.Book {
	plain := sketch.Book("", "b!x>3 . c?y:5.3>1,z:1>0").Nodes
	return []api.Book{
		{Nodes: append([]api.Node{x}, plain...)},
		{Nodes: slices.Concat(plain[:1], []api.Node{x}, plain[1:]), Names: []string{"p.a"}, Roots: []int{1}},
		{Nodes: append(slices.Clone(plain), x), Names: []string{"p.a", "p.b", "rest"}, Roots: []int{3, 0, 3}},
	}
}

// checkNode checks that each book with this node is valid, or that none is.
func checkNode(t *testing.T, x api.Node, want bool) {
	t.Helper()
	for _, b := range hosts(x) {
		if book.May(b) != want {
			t.Fatalf("P9.1: May(%v) = %v", b, !want)
		}
		checkBook(t, b)
	}
}

// checkEdge checks a node with this edge alone, and with the edge before, between and behind others. The label of the edge is between i and r, or not valid.
func checkEdge(t *testing.T, e api.Edge, want bool) {
	t.Helper()
	low, high := api.Edge{Label: "a", Next: 3}, api.Edge{Label: "zz", Sort: api.Sort{Kind: api.Chan, At: 3}}
	for _, kind := range []int{api.Send, api.Recv} {
		for _, edges := range [][]api.Edge{{e}, {e, high}, {low, e}, {low, e, high}} {
			checkNode(t, api.Node{Kind: kind, Peer: "b", Arms: edges}, want)
		}
	}
}

func TestMayOfNumbersOfNodes(t *testing.T) {
	for _, n := range []int{0, 1, 2, 399, 400, 401, 402, 800, 100000} {
		chain := make([]api.Node, n)
		for i := range chain {
			chain[i] = api.Node{Kind: api.Send, Peer: "b", Arms: []api.Edge{{Label: "x", Sort: api.Sort{Kind: api.Chan, At: n - 1 - i}, Next: (i + 1) % n}}}
		}
		for _, nodes := range [][]api.Node{make([]api.Node, n), chain} {
			if book.May(api.Book{Nodes: nodes}) != (n <= 400) {
				t.Errorf("P9.1: May of %d nodes = %v", n, n > 400)
			}
			root := min(n, 1)
			b := api.Book{Nodes: nodes, Names: slices.Repeat([]string{"r"}, root), Roots: slices.Repeat([]int{n - 1}, root)}
			if at, is := book.Root(b, "r"); is != (1 <= n && n <= 400) || is && at != n-1 || !is && at != 0 {
				t.Errorf("P9.3: Root where there are %d nodes = %d, %v", n, at, is)
			}
		}
	}
}

func TestMayOfNames(t *testing.T) {
	for _, c := range []struct {
		names string
		want  bool
	}{
		{"", true}, {"a", true}, {"a,b", true}, {"a,b,c", true}, {"p.a,p.b,p1,p2.a,pa.a", true}, {"a,aa,ab,b", true},
		// The Names need not be names.
		{",a", true}, {"0,A,END,a b,end,\x80", true}, {"\x00,a", true}, {"a,a\x00", true}, {"a.b.c", true}, {strings.Repeat("a", 1000), true},
		{"a,a", false}, {",", false}, {"b,a", false}, {"a,b,b", false}, {"a,a,b", false}, {"a,c,b", false}, {"b,a,c", false}, {"a,b,a", false}, {"b,c,a", false},
		{"p2.a,p.a", false}, {"p.b,p.a", false}, {"pa.a,p2.a", false}, {"aa,a", false}, {"a,", false}, {"a,B", false}, {"\x80,a", false}, {"a\x00,a", false}, {"a,b,c,d,e,f,f", false},
	} {
		var l []string
		if c.names != "" {
			l = strings.Split(c.names, ",")
		}
		b := api.Book{Nodes: sketch.Book("", "b!x>1 .").Nodes, Names: l, Roots: make([]int, len(l))}
		if book.May(b) != c.want {
			t.Errorf("P9.1: May with Names %q = %v", l, !c.want)
		}
		checkBook(t, b)
	}
	// The empty string alone.
	b := api.Book{Nodes: make([]api.Node, 1), Names: []string{""}, Roots: []int{0}}
	if !checkBook(t, b) {
		t.Error("P9.1: an empty Name")
	}
}

func TestMayOfNumbersOfNamesAndRoots(t *testing.T) {
	letters := strings.Split("abcdefg", "")
	for i := range 7 {
		for j := range 7 {
			for n := range 3 {
				b := api.Book{Nodes: make([]api.Node, n), Names: letters[:i], Roots: make([]int, j)}
				if want := i == j && (n > 0 || i == 0); book.May(b) != want {
					t.Errorf("P9.1: May of %d nodes, %d Names and %d Roots = %v", n, i, j, !want)
				}
				checkBook(t, b)
			}
		}
	}
	// There is no limit to them but what a Root can be.
	var l []string
	for i := range 600 {
		l = append(l, strconv.Itoa(1000+i))
	}
	b := api.Book{Nodes: make([]api.Node, 2), Names: l, Roots: make([]int, len(l))}
	if !checkBook(t, b) {
		t.Error("P9.1: many Names")
	}
	b.Roots = b.Roots[:599]
	if checkBook(t, b) {
		t.Error("P9.1: one Root less than Names")
	}
}

func TestMayOfRoots(t *testing.T) {
	for n := range 4 {
		for _, root := range append([]int{0, 1, 2, 3, 4}, oddInts...) {
			for _, roots := range [][]int{{root}, {root, 0}, {0, root}, {0, root, 0}} {
				b := api.Book{Nodes: make([]api.Node, n), Names: strings.Split("abc", "")[:len(roots)], Roots: roots}
				if want := n > 0 && root >= 0 && root < n; book.May(b) != want {
					t.Errorf("P9.1: May of %d nodes with Roots %v = %v", n, roots, !want)
				}
				checkBook(t, b)
			}
		}
	}
	b := api.Book{Nodes: make([]api.Node, 400), Names: []string{"a"}, Roots: []int{399}}
	if !checkBook(t, b) {
		t.Error("P9.1: the last node as a Root")
	}
	b.Roots[0] = 400
	if checkBook(t, b) {
		t.Error("P9.1: a Root behind the last node")
	}
}

func TestMayOfEnds(t *testing.T) {
	checkNode(t, api.Node{}, true)
	checkNode(t, api.Node{Arms: []api.Edge{}}, true)
	for _, arms := range [][]api.Edge{nil, {}, {{}}, sketch.Edges("x>0"), sketch.Edges("a>0,b>0,c>0,d>0,e>0,f>0,g>0")} {
		for _, peer := range []string{"", "b", "end", "A"} {
			checkNode(t, api.Node{Peer: peer, Arms: arms}, peer == "" && len(arms) == 0)
		}
	}
}

func TestMayOfKinds(t *testing.T) {
	for _, k := range append([]int{0, 1, 2, 3, 4, 5}, oddInts...) {
		checkNode(t, api.Node{Kind: k}, k == 0)
		checkNode(t, api.Node{Kind: k, Peer: "b", Arms: sketch.Edges("x>0")}, k == 1 || k == 2)
		checkNode(t, api.Node{Kind: k, Peer: "b"}, false)
		checkNode(t, api.Node{Kind: k, Arms: sketch.Edges("x>0")}, false)
	}
}

func TestMayOfPeers(t *testing.T) {
	for _, kind := range []int{api.Send, api.Recv} {
		for _, p := range goodNames {
			checkNode(t, api.Node{Kind: kind, Peer: p, Arms: sketch.Edges("x>0,y>1")}, true)
		}
		for _, p := range badNames {
			checkNode(t, api.Node{Kind: kind, Peer: p, Arms: sketch.Edges("x>0,y>1")}, false)
		}
	}
}

func TestMayOfNumbersOfArms(t *testing.T) {
	for _, kind := range []int{api.Send, api.Recv} {
		checkNode(t, api.Node{Kind: kind, Peer: "b", Arms: []api.Edge{}}, false)
		for n := range 30 {
			var edges []api.Edge
			for i := range n {
				edges = append(edges, api.Edge{Label: string(rune('a'+i%26)) + strconv.Itoa(i/26), Next: i % 4})
			}
			slices.SortFunc(edges, func(a, b api.Edge) int { return strings.Compare(a.Label, b.Label) })
			checkNode(t, api.Node{Kind: kind, Peer: "b", Arms: edges}, n >= 1 && n <= 6)
		}
	}
}

func TestMayOfLabels(t *testing.T) {
	for _, s := range goodNames {
		checkNode(t, api.Node{Kind: api.Send, Peer: "b", Arms: []api.Edge{{Label: s}}}, true)
		checkNode(t, api.Node{Kind: api.Recv, Peer: "b", Arms: []api.Edge{{Label: s}, {Label: s}}}, false)
	}
	for _, s := range badNames {
		checkEdge(t, api.Edge{Label: s}, false)
	}
	for _, c := range []struct {
		labels string
		want   bool
	}{
		{"a b", true}, {"a b c d e f", true}, {"a a0 a1 aa b", true}, {"a1 a10 a2", true},
		{"a a", false}, {"b a", false}, {"a b b", false}, {"a a b", false}, {"a c b", false}, {"b a c", false}, {"a b a", false}, {"b c a", false}, {"a b c d f e", false}, {"a b c d e e", false},
		{"aa a0", false}, {"a1 a", false}, {"a2 a10", false},
	} {
		var edges []api.Edge
		for _, label := range strings.Fields(c.labels) {
			edges = append(edges, api.Edge{Label: label})
		}
		checkNode(t, api.Node{Kind: api.Send, Peer: "b", Arms: edges}, c.want)
		checkNode(t, api.Node{Kind: api.Recv, Peer: "b", Arms: edges}, c.want)
	}
}

func TestMayOfNexts(t *testing.T) {
	for _, next := range append([]int{0, 1, 2, 3, 4, 5}, oddInts...) {
		checkEdge(t, api.Edge{Label: "m", Next: next}, next >= 0 && next < 4)
	}
}

func TestMayOfSorts(t *testing.T) {
	for _, kind := range append([]int{0, 1, 2, 3, 4, 5}, oddInts...) {
		for _, at := range append([]int{0, 1, 2, 3, 4, 5}, oddInts...) {
			want := kind == api.Chan && at >= 0 && at < 4 || kind >= 0 && kind < api.Chan && at == 0
			checkEdge(t, api.Edge{Label: "m", Sort: api.Sort{Kind: kind, At: at}}, want)
		}
	}
}
