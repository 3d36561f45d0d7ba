package under_test

import (
	"maps"
	"slices"
	"strings"
	"testing"

	"repartee/api"
	"repartee/book"
	"repartee/equal"
	"repartee/sketch"
	"repartee/under"
)

// pairsOf reads pairs, separated by blanks, each with a slash between its numbers.
func pairsOf(text string) [][2]int {
	var l [][2]int
	for pair := range slices.Chunk(sketch.Numbers(strings.ReplaceAll(text, "/", " ")), 2) {
		l = append(l, [2]int(pair))
	}
	return l
}

// edge returns the edge of n that has this label.
func edge(n api.Node, label string) (api.Edge, bool) {
	i := slices.IndexFunc(n.Arms, func(e api.Edge) bool { return e.Label == label })
	if i < 0 {
		return api.Edge{}, false
	}
	return n.Arms[i], true
}

// simpleValid tells whether a pair of nodes is locally valid, in the definition's words.
func simpleValid(x, y api.Node) bool {
	hasAll := func(n, m api.Node) bool { // every label of m is a label of n
		return !slices.ContainsFunc(m.Arms, func(e api.Edge) bool { _, is := edge(n, e.Label); return !is })
	}
	bothEnd := x.Kind == 0 && y.Kind == 0
	bothSend := x.Kind == 1 && y.Kind == 1 && x.Peer == y.Peer && hasAll(x, y)
	bothRecv := x.Kind == 2 && y.Kind == 2 && x.Peer == y.Peer && hasAll(y, x)
	kindsDiffer := slices.ContainsFunc(x.Arms, func(e api.Edge) bool {
		f, is := edge(y, e.Label)
		return is && f.Sort.Kind != e.Sort.Kind
	})
	return (bothEnd || bothSend || bothRecv) && !kindsDiffer
}

// simpleAsked tells the obligations of a locally valid pair of nodes, in the definition's words.
func simpleAsked(x, y api.Node) [][2]int {
	var l [][2]int
	for _, e := range x.Arms {
		f, is := edge(y, e.Label)
		if !is {
			continue
		}
		switch {
		case e.Sort.Kind == 5 && x.Kind == 1:
			l = append(l, [2]int{f.Sort.At, e.Sort.At})
		case e.Sort.Kind == 5 && x.Kind == 2:
			l = append(l, [2]int{e.Sort.At, f.Sort.At})
		}
		l = append(l, [2]int{e.Next, f.Next})
	}
	return l
}

// simpleUnder tells of a valid book which pairs of nodes are under each other. It begins with all pairs and takes away what can be in no set of the definition; what stays is such a set, and the greatest one.
func simpleUnder(b api.Book) map[[2]int]bool {
	set := map[[2]int]bool{}
	for x, m := range b.Nodes {
		for y, n := range b.Nodes {
			if simpleValid(m, n) {
				set[[2]int{x, y}] = true
			}
		}
	}
	for size := -1; size != len(set); {
		size = len(set)
		maps.DeleteFunc(set, func(p [2]int, _ bool) bool {
			asked := simpleAsked(b.Nodes[p[0]], b.Nodes[p[1]])
			return slices.ContainsFunc(asked, func(q [2]int) bool { return !set[q] })
		})
	}
	return set
}

// simplePairs tells P11.2 for nodes x and y of a valid book of which x is under y.
func simplePairs(b api.Book, x, y int) [][2]int {
	met := map[[2]int]bool{}
	var l, rest [][2]int
	rest = append(rest, [2]int{x, y})
	for len(rest) > 0 {
		p := rest[0]
		rest = rest[1:]
		if met[p] {
			continue
		}
		met[p] = true
		l = append(l, p)
		rest = append(rest, simpleAsked(b.Nodes[p[0]], b.Nodes[p[1]])...)
	}
	return l
}

// simpleHolds tells P11.1's Holds of a valid book.
func simpleHolds(b api.Book, l [][2]int) bool {
	isNode := func(i int) bool { return 0 <= i && i < len(b.Nodes) }
	return !slices.ContainsFunc(l, func(p [2]int) bool {
		return !isNode(p[0]) || !isNode(p[1]) || !simpleValid(b.Nodes[p[0]], b.Nodes[p[1]]) ||
			slices.ContainsFunc(simpleAsked(b.Nodes[p[0]], b.Nodes[p[1]]), func(q [2]int) bool { return !slices.Contains(l, q) })
	})
}

// check checks what Is, Pairs and Holds say of a valid book, for all pairs of its nodes and others, and what follows.
func check(t *testing.T, b api.Book) {
	t.Helper()
	if !book.May(b) {
		t.Fatalf("a test with the invalid book %v", b)
	}
	before := sketch.Copy(b)
	set := simpleUnder(b)
	for x := range b.Nodes {
		for y := range b.Nodes {
			if set[[2]int{x, y}] {
				checkUnder(t, b, x, y)
			} else {
				checkNotUnder(t, b, x, y)
			}
		}
	}
	n := len(b.Nodes)
	for _, x := range sketch.OddIndices(b) {
		for _, y := range []int{0, n - 1, -1, n, x} {
			checkNotUnder(t, b, x, y)
			checkNotUnder(t, b, y, x)
		}
	}
	checkOrder(t, b)
	if !sketch.Same(b, before) {
		t.Fatalf("P0.4: %v was changed to %v", before, b)
	}
}

func checkUnder(t *testing.T, b api.Book, x, y int) {
	t.Helper()
	if !under.Is(b, x, y) {
		t.Fatalf("P11.1: Is(%v, %d, %d) is false", b, x, y)
	}
	want := simplePairs(b, x, y)
	for range 2 {
		if l, is := under.Pairs(b, x, y); !is || !slices.Equal(l, want) {
			t.Fatalf("P11.2: Pairs(%v, %d, %d) = %v, %v, want %v", b, x, y, l, is, want)
		}
	}
	checkHolds(t, b, want, true)
}

func checkNotUnder(t *testing.T, b api.Book, x, y int) {
	t.Helper()
	if under.Is(b, x, y) {
		t.Fatalf("P11.1: Is(%v, %d, %d) is true", b, x, y)
	}
	if l, is := under.Pairs(b, x, y); is || len(l) > 0 {
		t.Fatalf("P11.2: Pairs(%v, %d, %d) = %v, %v", b, x, y, l, is)
	}
}

// checkHolds checks that Holds answers want and leaves its list alone.
func checkHolds(t *testing.T, b api.Book, l [][2]int, want bool) {
	t.Helper()
	before := slices.Clone(l)
	if under.Holds(b, l) != want {
		t.Fatalf("P11.1: Holds(%v, %v) = %v", b, l, !want)
	}
	if !slices.Equal(l, before) {
		t.Fatalf("P0.4: %v was changed to %v", before, l)
	}
}

// checkOrder checks P11.3.
func checkOrder(t *testing.T, b api.Book) {
	t.Helper()
	is := make([][]bool, len(b.Nodes))
	for x := range is {
		for y := range is {
			is[x] = append(is[x], under.Is(b, x, y))
		}
	}
	for x := range is {
		if !is[x][x] {
			t.Fatalf("P11.3: node %d of %v is not under itself", x, b)
		}
		for y := range is {
			if (is[x][y] && is[y][x]) != equal.Same(b, x, y) {
				t.Fatalf("P11.3: nodes %d and %d of %v are under each other, or they are equal, but not both", x, y, b)
			}
			for z := range is {
				if is[x][y] && is[y][z] && !is[x][z] {
					t.Fatalf("P11.3: nodes %d, %d and %d of %v", x, y, z, b)
				}
			}
		}
	}
}

// checkInvalid checks that nothing is said of an invalid book.
func checkInvalid(t *testing.T, b api.Book) {
	t.Helper()
	before := sketch.Copy(b)
	n := min(len(b.Nodes), 6)
	for x := -1; x <= n; x++ {
		for y := -1; y <= n; y++ {
			checkNotUnder(t, b, x, y)
			checkHolds(t, b, [][2]int{{x, y}}, false)
		}
	}
	checkHolds(t, b, nil, false)
	checkHolds(t, b, [][2]int{}, false)
	if !sketch.Same(b, before) {
		t.Errorf("P0.4: %v was changed to %v", before, b)
	}
}
