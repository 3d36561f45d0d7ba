package equal_test

import (
	"math"
	"slices"
	"strconv"
	"strings"
	"testing"

	"repartee/api"
	"repartee/book"
	"repartee/equal"
)

// booked reads a book: each name with = and its root, and its nodes, all separated by blanks. A node is a dot (the end), or its Peer, then ! or ?, then edges separated by commas. An edge is its label, perhaps a colon, a digit for the Kind that it carries, a dot and the At, and behind > the Next.
func booked(roots, nodes string) api.Book {
	var b api.Book
	for _, word := range strings.Fields(roots) {
		name, root, _ := strings.Cut(word, "=")
		b.Names = append(b.Names, name)
		b.Roots = append(b.Roots, number(root))
	}
	for _, word := range strings.Fields(nodes) {
		b.Nodes = append(b.Nodes, node(word))
	}
	return b
}

func node(word string) api.Node {
	if peer, edges, is := strings.Cut(word, "!"); is {
		return api.Node{Kind: api.Send, Peer: peer, Arms: edgesOf(edges)}
	}
	if peer, edges, is := strings.Cut(word, "?"); is {
		return api.Node{Kind: api.Recv, Peer: peer, Arms: edgesOf(edges)}
	}
	return api.Node{}
}

func edgesOf(text string) []api.Edge {
	var l []api.Edge
	for word := range strings.SplitSeq(text, ",") {
		what, next, _ := strings.Cut(word, ">")
		label, carries, _ := strings.Cut(what, ":")
		kind, at, _ := strings.Cut(carries, ".")
		l = append(l, api.Edge{Label: label, Sort: api.Sort{Kind: number(kind), At: number(at)}, Next: number(next)})
	}
	return l
}

// number is 0 for no digits, as what an edge does not say is.
func number(text string) int {
	n, _ := strconv.Atoi(text)
	return n
}

func numbers(text string) []int {
	var l []int
	for _, word := range strings.Fields(text) {
		l = append(l, number(word))
	}
	return l
}

// each returns what of each of n nodes.
func each(n int, what func(i int) int) []int {
	var l []int
	for i := range n {
		l = append(l, what(i))
	}
	return l
}

func itself(i int) int { return i }

// copied is b in memory of its own.
func copied(b api.Book) api.Book {
	b.Nodes, b.Names, b.Roots = slices.Clone(b.Nodes), slices.Clone(b.Names), slices.Clone(b.Roots)
	for i := range b.Nodes {
		b.Nodes[i].Arms = slices.Clone(b.Nodes[i].Arms)
	}
	return b
}

func sameNodes(a, b []api.Node) bool {
	return slices.EqualFunc(a, b, func(x, y api.Node) bool {
		return x.Kind == y.Kind && x.Peer == y.Peer && slices.Equal(x.Arms, y.Arms)
	})
}

func sameBooks(a, b api.Book) bool {
	return slices.Equal(a.Names, b.Names) && slices.Equal(a.Roots, b.Roots) && sameNodes(a.Nodes, b.Nodes)
}

// matches reports whether two nodes match locally, as the definitions say.
func matches(x, y api.Node) bool {
	return x.Kind == y.Kind && x.Peer == y.Peer && slices.EqualFunc(x.Arms, y.Arms, func(e, f api.Edge) bool {
		return e.Label == f.Label && e.Sort.Kind == f.Sort.Kind
	})
}

// alike reports whether from node x of b and node y of c the same labels, and what they carry, lead to nodes that match locally: it makes the least set of pairs that has (x, y) and what the definition asks for, until a pair does not match.
func alike(b api.Book, x int, c api.Book, y int) bool {
	pairs := [][2]int{{x, y}}
	in := map[[2]int]bool{{x, y}: true}
	ask := func(x, y int) {
		if !in[[2]int{x, y}] {
			in[[2]int{x, y}] = true
			pairs = append(pairs, [2]int{x, y})
		}
	}
	for i := 0; i < len(pairs); i++ {
		m, n := b.Nodes[pairs[i][0]], c.Nodes[pairs[i][1]]
		if !matches(m, n) {
			return false
		}
		for k, e := range m.Arms {
			ask(e.Next, n.Arms[k].Next)
			if e.Sort.Kind == 5 {
				ask(e.Sort.At, n.Arms[k].Sort.At)
			}
		}
	}
	return true
}

// simpleClasses tells what P10.1 says of a valid book: each node is held against those before it.
func simpleClasses(b api.Book) []int {
	var l []int
	for y := range b.Nodes {
		x := 0
		for !alike(b, x, b, y) {
			x++
		}
		l = append(l, x)
	}
	return l
}

// simpleShrink tells what P10.2 says of a valid book with these classes.
func simpleShrink(b api.Book, classes []int) api.Book {
	var kept []int
	for i, least := range classes {
		if least == i {
			kept = append(kept, i)
		}
	}
	index := func(i int) int { return slices.Index(kept, classes[i]) }
	s := api.Book{Names: b.Names}
	for _, root := range b.Roots {
		s.Roots = append(s.Roots, index(root))
	}
	for _, i := range kept {
		n := api.Node{Kind: b.Nodes[i].Kind, Peer: b.Nodes[i].Peer}
		for _, e := range b.Nodes[i].Arms {
			e.Next = index(e.Next)
			if e.Sort.Kind == 5 {
				e.Sort.At = index(e.Sort.At)
			}
			n.Arms = append(n.Arms, e)
		}
		s.Nodes = append(s.Nodes, n)
	}
	return s
}

// oddIndices denote no node of b: the first two are just outside of it.
func oddIndices(b api.Book) []int {
	n := len(b.Nodes)
	return []int{-1, n, n + 1, -2, -n - 1, n + 400, 1 << 31, 1 << 32, 1<<32 + 1, -1 << 32, math.MinInt, math.MaxInt}
}

// check checks what Classes and Shrink say of a valid book, what Same says of each pair of its nodes and of others, and what follows.
func check(t *testing.T, b api.Book) {
	t.Helper()
	if !book.May(b) {
		t.Fatalf("a test with the invalid book %v", b)
	}
	checkWith(t, b, simpleClasses(b))
}

// checkWith is check for a book with these classes.
func checkWith(t *testing.T, b api.Book, want []int) {
	t.Helper()
	before := copied(b)
	for range 2 {
		if got := equal.Classes(b); !slices.Equal(got, want) {
			t.Fatalf("P10.1: Classes(%v) = %v, want %v", b, got, want)
		}
	}
	checkSame(t, b, want)
	s := equal.Shrink(b)
	if wanted := simpleShrink(b, want); !sameBooks(s, wanted) {
		t.Fatalf("P10.2: Shrink(%v) = %v, want %v", b, s, wanted)
	}
	checkShrunk(t, b, s)
	if !sameBooks(b, before) {
		t.Fatalf("P0.4: %v was changed to %v", before, b)
	}
}

// checkSame checks all pairs of nodes of b and many with an index that is none, or in a large book some of them.
func checkSame(t *testing.T, b api.Book, classes []int) {
	t.Helper()
	n := len(b.Nodes)
	nodes, odd := each(n, itself), oddIndices(b)
	if n > 20 {
		nodes, odd = []int{0, 1, n / 2, n - 2, n - 1}, odd[:2]
	}
	for _, x := range nodes {
		for _, y := range nodes {
			if equal.Same(b, x, y) != (classes[x] == classes[y]) {
				t.Fatalf("P10.1: Same(%v, %d, %d) = %v", b, x, y, classes[x] != classes[y])
			}
		}
	}
	for _, x := range odd {
		for _, y := range []int{0, n - 1, -1, n, x} {
			if equal.Same(b, x, y) || equal.Same(b, y, x) {
				t.Fatalf("P10.1: Same(%v, %d, %d), or the other way round", b, x, y)
			}
		}
	}
}

// checkShrunk checks what follows for s, which is Shrink of b.
func checkShrunk(t *testing.T, b, s api.Book) {
	t.Helper()
	if !book.May(s) {
		t.Fatalf("P10.3: Shrink(%v) = %v is not valid", b, s)
	}
	if !slices.Equal(s.Names, b.Names) || len(s.Roots) != len(b.Roots) {
		t.Fatalf("P10.3: Shrink(%v) = %v has other names", b, s)
	}
	for i, least := range equal.Classes(s) {
		if least != i {
			t.Fatalf("P10.3: nodes %d and %d of the shrunk book %v are equal", least, i, s)
		}
	}
	if again := equal.Shrink(s); !sameBooks(again, s) {
		t.Fatalf("P10.3: Shrink(%v) = %v, though it is shrunk", s, again)
	}
	for i, root := range s.Roots {
		if !alike(b, b.Roots[i], s, root) {
			t.Fatalf("P10.3: root %d of %v behaves in another way in %v", i, b, s)
		}
	}
}

// checkInvalid checks that nothing is said of an invalid book.
func checkInvalid(t *testing.T, b api.Book) {
	t.Helper()
	before := copied(b)
	if got := equal.Classes(b); len(got) > 0 {
		t.Errorf("P10.1: Classes(%v) = %v", b, got)
	}
	for x := -1; x <= min(len(b.Nodes), 6); x++ {
		for y := -1; y <= min(len(b.Nodes), 6); y++ {
			if equal.Same(b, x, y) {
				t.Errorf("P10.1: Same(%v, %d, %d)", b, x, y)
			}
		}
	}
	if s := equal.Shrink(b); len(s.Nodes) > 0 || len(s.Names) > 0 || len(s.Roots) > 0 {
		t.Errorf("P10.2: Shrink(%v) = %v", b, s)
	}
	if !sameBooks(b, before) {
		t.Errorf("P0.4: %v was changed to %v", before, b)
	}
}

// swapped is b with its nodes in another order: node i of b becomes node order[i].
func swapped(b api.Book, order []int) api.Book {
	s := api.Book{Nodes: make([]api.Node, len(b.Nodes)), Names: slices.Clone(b.Names)}
	for i, n := range b.Nodes {
		m := api.Node{Kind: n.Kind, Peer: n.Peer}
		for _, e := range n.Arms {
			e.Next = order[e.Next]
			if e.Sort.Kind == 5 {
				e.Sort.At = order[e.Sort.At]
			}
			m.Arms = append(m.Arms, e)
		}
		s.Nodes[order[i]] = m
	}
	for _, root := range b.Roots {
		s.Roots = append(s.Roots, order[root])
	}
	return s
}
