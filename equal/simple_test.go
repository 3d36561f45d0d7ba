package equal_test

import (
	"slices"
	"testing"

	"repartee/api"
	"repartee/book"
	"repartee/equal"
	"repartee/sketch"
)

// each returns what of each of n nodes.
func each(n int, what func(i int) int) []int {
	var l []int
	for i := range n {
		l = append(l, what(i))
	}
	return l
}

func itself(i int) int { return i }

// matches reports whether two nodes match locally, as the definitions say.
func matches(x, y api.Node) bool {
	return x.Kind == y.Kind && x.Peer == y.Peer && slices.EqualFunc(x.Arms, y.Arms, func(e, f api.Edge) bool {
		return e.Label == f.Label && e.Sort.Kind == f.Sort.Kind
	})
}

// alike reports whether from node x of b and node y of c the same labels, and what they carry, lead to nodes that match locally: it makes the least set of pairs that has (x, y) and what the definition asks for, until a pair does not match.
func alike(b api.Book, x int, c api.Book, y int) bool {
	pairs := [][2]int{{x, y}}
	in := map[[2]int]bool{{x, y}: true}
	ask := func(x, y int) {
		if !in[[2]int{x, y}] {
			in[[2]int{x, y}] = true
			pairs = append(pairs, [2]int{x, y})
		}
	}
	for i := 0; i < len(pairs); i++ {
		m, n := b.Nodes[pairs[i][0]], c.Nodes[pairs[i][1]]
		if !matches(m, n) {
			return false
		}
		for k, e := range m.Arms {
			ask(e.Next, n.Arms[k].Next)
			if e.Sort.Kind == 5 {
				ask(e.Sort.At, n.Arms[k].Sort.At)
			}
		}
	}
	return true
}

// simpleClasses tells what P10.1 says of a valid book: each node is held against those before it.
func simpleClasses(b api.Book) []int {
	var l []int
	for y := range b.Nodes {
		x := 0
		for !alike(b, x, b, y) {
			x++
		}
		l = append(l, x)
	}
	return l
}

// simpleShrink tells what P10.2 says of a valid book with these classes.
func simpleShrink(b api.Book, classes []int) api.Book {
	var kept []int
	for i, least := range classes {
		if least == i {
			kept = append(kept, i)
		}
	}
	index := func(i int) int { return slices.Index(kept, classes[i]) }
	s := api.Book{Names: b.Names}
	for _, root := range b.Roots {
		s.Roots = append(s.Roots, index(root))
	}
	for _, i := range kept {
		n := api.Node{Kind: b.Nodes[i].Kind, Peer: b.Nodes[i].Peer}
		for _, e := range b.Nodes[i].Arms {
			e.Next = index(e.Next)
			if e.Sort.Kind == 5 {
				e.Sort.At = index(e.Sort.At)
			}
			n.Arms = append(n.Arms, e)
		}
		s.Nodes = append(s.Nodes, n)
	}
	return s
}

// check checks what Classes and Shrink say of a valid book, what Same says of each pair of its nodes and of others, and what follows.
func check(t *testing.T, b api.Book) {
	t.Helper()
	if !book.May(b) {
		t.Fatalf("a test with the invalid book %v", b)
	}
	checkWith(t, b, simpleClasses(b))
}

// checkWith is check for a book with these classes.
func checkWith(t *testing.T, b api.Book, want []int) {
	t.Helper()
	before := sketch.Copy(b)
	for range 2 {
		if got := equal.Classes(b); !slices.Equal(got, want) {
			t.Fatalf("P10.1: Classes(%v) = %v, want %v", b, got, want)
		}
	}
	checkSame(t, b, want)
	s := equal.Shrink(b)
	if wanted := simpleShrink(b, want); !sketch.Same(s, wanted) {
		t.Fatalf("P10.2: Shrink(%v) = %v, want %v", b, s, wanted)
	}
	checkShrunk(t, b, s)
	if !sketch.Same(b, before) {
		t.Fatalf("P0.4: %v was changed to %v", before, b)
	}
}

// checkSame checks all pairs of nodes of b and many with an index that is none, or in a large book some of them.
func checkSame(t *testing.T, b api.Book, classes []int) {
	t.Helper()
	n := len(b.Nodes)
	nodes, odd := each(n, itself), sketch.OddIndices(b)
	if n > 20 {
		nodes, odd = []int{0, 1, n / 2, n - 2, n - 1}, odd[:2]
	}
	for _, x := range nodes {
		for _, y := range nodes {
			if equal.Same(b, x, y) != (classes[x] == classes[y]) {
				t.Fatalf("P10.1: Same(%v, %d, %d) = %v", b, x, y, classes[x] != classes[y])
			}
		}
	}
	for _, x := range odd {
		for _, y := range []int{0, n - 1, -1, n, x} {
			if equal.Same(b, x, y) || equal.Same(b, y, x) {
				t.Fatalf("P10.1: Same(%v, %d, %d), or the other way round", b, x, y)
			}
		}
	}
}

// checkShrunk checks what follows for s, which is Shrink of b.
func checkShrunk(t *testing.T, b, s api.Book) {
	t.Helper()
	if !book.May(s) {
		t.Fatalf("P10.3: Shrink(%v) = %v is not valid", b, s)
	}
	if !slices.Equal(s.Names, b.Names) || len(s.Roots) != len(b.Roots) {
		t.Fatalf("P10.3: Shrink(%v) = %v has other names", b, s)
	}
	for i, least := range equal.Classes(s) {
		if least != i {
			t.Fatalf("P10.3: nodes %d and %d of the shrunk book %v are equal", least, i, s)
		}
	}
	if again := equal.Shrink(s); !sketch.Same(again, s) {
		t.Fatalf("P10.3: Shrink(%v) = %v, though it is shrunk", s, again)
	}
	for i, root := range s.Roots {
		if !alike(b, b.Roots[i], s, root) {
			t.Fatalf("P10.3: root %d of %v behaves in another way in %v", i, b, s)
		}
	}
}

// checkInvalid checks that nothing is said of an invalid book.
func checkInvalid(t *testing.T, b api.Book) {
	t.Helper()
	before := sketch.Copy(b)
	if got := equal.Classes(b); len(got) > 0 {
		t.Errorf("P10.1: Classes(%v) = %v", b, got)
	}
	for x := -1; x <= min(len(b.Nodes), 6); x++ {
		for y := -1; y <= min(len(b.Nodes), 6); y++ {
			if equal.Same(b, x, y) {
				t.Errorf("P10.1: Same(%v, %d, %d)", b, x, y)
			}
		}
	}
	if s := equal.Shrink(b); len(s.Nodes) > 0 || len(s.Names) > 0 || len(s.Roots) > 0 {
		t.Errorf("P10.2: Shrink(%v) = %v", b, s)
	}
	if !sketch.Same(b, before) {
		t.Errorf("P0.4: %v was changed to %v", before, b)
	}
}
