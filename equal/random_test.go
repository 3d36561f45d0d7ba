package equal_test

import (
	"math/rand"
	"slices"
	"testing"

	"repartee/api"
	"repartee/book"
	"repartee/equal"
	"repartee/sketch"
)

// All books of up to three small nodes: two nodes have up to two labels, three nodes have one.
func TestAllSmallBooks(t *testing.T) {
	for _, x := range sketch.Plain(1, "x", "y") {
		check(t, api.Book{Nodes: []api.Node{x}, Names: []string{"a"}, Roots: []int{0}})
	}
	two := sketch.Plain(2, "x", "y")
	for _, x := range two {
		for _, y := range two {
			checkSmall(t, x, y)
		}
	}
	three := sketch.Plain(3, "x")
	for _, x := range three {
		for _, y := range three {
			for _, z := range three {
				checkSmall(t, x, y, z)
			}
		}
	}
}

// checkSmall is check with less repetition, and without the indices that are none.
func checkSmall(t *testing.T, nodes ...api.Node) {
	b := api.Book{Nodes: nodes, Names: []string{"a", "b"}, Roots: []int{len(nodes) - 1, 0}}
	want := simpleClasses(b)
	if got := equal.Classes(b); !slices.Equal(got, want) {
		t.Fatalf("P10.1: Classes(%v) = %v, want %v", b, got, want)
	}
	for y := range nodes {
		if equal.Same(b, 0, y) != (want[y] == 0) {
			t.Fatalf("P10.1: Same(%v, 0, %d) = %v", b, y, want[y] != 0)
		}
	}
	s := equal.Shrink(b)
	if !sketch.Same(s, simpleShrink(b, want)) {
		t.Fatalf("P10.2: Shrink(%v) = %v", b, s)
	}
	checkShrunk(t, b, s)
}

func pick[T any](r *rand.Rand, l ...T) T { return l[r.Intn(len(l))] }

// drawn is a valid book of n nodes. The fewer choices there are, the more of its nodes are equal.
func drawn(r *rand.Rand, n int) api.Book {
	peers, labels, kinds := 1+r.Intn(2), 1+r.Intn(3), 1+r.Intn(3)
	ends := r.Intn(2)
	var b api.Book
	for range n {
		x := api.Node{Kind: 1 + r.Intn(kinds)%2, Peer: []string{"b", "c"}[r.Intn(peers)]}
		for k, label := range []string{"x", "y", "z"}[:labels] {
			if k > 0 && r.Intn(3) == 0 {
				continue
			}
			e := api.Edge{Label: label, Next: r.Intn(n)}
			if r.Intn(3) < kinds-1 {
				e.Sort = api.Sort{Kind: api.Chan, At: r.Intn(n)}
			}
			x.Arms = append(x.Arms, e)
		}
		if r.Intn(4) < ends {
			x = api.Node{}
		}
		b.Nodes = append(b.Nodes, x)
	}
	return named(r, b)
}

// named is b with some names for its nodes.
func named(r *rand.Rand, b api.Book) api.Book {
	b.Names, b.Roots = nil, nil
	for _, name := range []string{"p.a", "p.b", "rest", "rest2"}[:r.Intn(5)] {
		b.Names, b.Roots = append(b.Names, name), append(b.Roots, r.Intn(len(b.Nodes)))
	}
	return b
}

// spread is a book of n nodes, each a copy of a node of b, that leads to any copies of the nodes that the other leads to. It returns of which node each is a copy.
func spread(r *rand.Rand, b api.Book, n int) (api.Book, []int) {
	of := append(r.Perm(len(b.Nodes)), each(n-len(b.Nodes), func(int) int { return r.Intn(len(b.Nodes)) })...)
	r.Shuffle(n, func(i, j int) { of[i], of[j] = of[j], of[i] })
	copyOf := func(i int) int {
		for {
			if k := r.Intn(n); of[k] == i {
				return k
			}
		}
	}
	var s api.Book
	for _, i := range of {
		x := api.Node{Kind: b.Nodes[i].Kind, Peer: b.Nodes[i].Peer}
		for _, e := range b.Nodes[i].Arms {
			e.Next = copyOf(e.Next)
			if e.Sort.Kind == api.Chan {
				e.Sort.At = copyOf(e.Sort.At)
			}
			x.Arms = append(x.Arms, e)
		}
		s.Nodes = append(s.Nodes, x)
	}
	return named(r, s), of
}

func TestRandomBooks(t *testing.T) {
	r := rand.New(rand.NewSource(2))
	left := map[bool]int{}
	for range 2000 {
		b := drawn(r, 1+r.Intn(9))
		check(t, b)
		left[len(equal.Shrink(b).Nodes) < len(b.Nodes)]++
	}
	if left[true] < 300 || left[false] < 300 {
		t.Error("too few of the random books have equal nodes, or too few have none:", left)
	}
}

// A copy is equal to its node, whichever copies it leads to, and a change of one node is found by all that lead there.
func TestRandomCopies(t *testing.T) {
	r := rand.New(rand.NewSource(3))
	parted := 0
	for range 1000 {
		b := drawn(r, 1+r.Intn(6))
		s, of := spread(r, b, len(b.Nodes)+r.Intn(14))
		check(t, s)
		for x := range of {
			for y := range of {
				if equal.Same(s, x, y) != equal.Same(b, of[x], of[y]) {
					t.Fatalf("P10.1: nodes %d and %d of %v are copies of nodes %d and %d of %v", x, y, s, of[x], of[y], b)
				}
			}
		}
		if one, two := len(equal.Shrink(b).Nodes), len(equal.Shrink(s).Nodes); one != two {
			t.Fatalf("P10.2: Shrink(%v) has %d nodes, Shrink(%v) has %d", b, one, s, two)
		}
		before := equal.Classes(s)
		change(r, s)
		check(t, s)
		if !slices.Equal(equal.Classes(s), before) {
			parted++
		}
	}
	if parted < 300 {
		t.Error("too few of the changes make a difference:", parted)
	}
}

// change changes one thing in one node of a valid book, which stays valid.
func change(r *rand.Rand, b api.Book) {
	x := &b.Nodes[r.Intn(len(b.Nodes))]
	if x.Kind == api.End {
		*x = sketch.Node("b!x>0")
		return
	}
	e := &x.Arms[r.Intn(len(x.Arms))]
	switch r.Intn(7) {
	case 0:
		x.Kind = 3 - x.Kind
	case 1:
		x.Peer = pick(r, "b", "c", "bb")
	case 2:
		x.Arms[len(x.Arms)-1].Label = pick(r, "z", "z2", "zz")
	case 3:
		e.Sort = api.Sort{Kind: r.Intn(5)}
	case 4:
		e.Sort = api.Sort{Kind: api.Chan, At: r.Intn(len(b.Nodes))}
	case 5:
		e.Next = r.Intn(len(b.Nodes))
	case 6:
		*x = api.Node{}
	}
}

func TestEqualityIsReflexiveSymmetricAndTransitive(t *testing.T) {
	r := rand.New(rand.NewSource(4))
	for range 300 {
		b, _ := spread(r, drawn(r, 1+r.Intn(4)), 4+r.Intn(4))
		n := len(b.Nodes)
		for x := range n {
			if !equal.Same(b, x, x) {
				t.Fatalf("P10.3: node %d of %v is not equal to itself", x, b)
			}
			for y := range n {
				if equal.Same(b, x, y) != equal.Same(b, y, x) {
					t.Fatalf("P10.3: nodes %d and %d of %v are equal in one order alone", x, y, b)
				}
				for z := range n {
					if equal.Same(b, x, y) && equal.Same(b, y, z) && !equal.Same(b, x, z) {
						t.Fatalf("P10.3: nodes %d, %d and %d of %v", x, y, z, b)
					}
				}
			}
		}
	}
}

// A book behind another one, with its nodes counted on: each node is equal to its like, and what is equal in one book is equal in both.
func TestBooksSideBySide(t *testing.T) {
	r := rand.New(rand.NewSource(5))
	for range 500 {
		b := drawn(r, 1+r.Intn(6))
		n := len(b.Nodes)
		second := sketch.Reorder(api.Book{Nodes: slices.Concat(b.Nodes, b.Nodes)}, each(2*n, func(i int) int { return (i + n) % (2 * n) }))
		two := api.Book{Nodes: slices.Concat(b.Nodes, second.Nodes[:n])}
		if !book.May(two) {
			t.Fatalf("%v is not valid", two)
		}
		classes := equal.Classes(b)
		checkWith(t, two, slices.Concat(classes, classes))
		s := equal.Shrink(two)
		if !sketch.SameNodes(s.Nodes, equal.Shrink(b).Nodes) {
			t.Fatalf("P10.2: Shrink(%v) = %v", two, s)
		}
	}
}

// The shrunk book of a larger one is as small as it can be, and any order of its nodes makes a book of the same size.
func TestRandomLargeBooks(t *testing.T) {
	r := rand.New(rand.NewSource(6))
	for range 20 {
		b := drawn(r, 2+r.Intn(60))
		s, of := spread(r, b, 400)
		classes := equal.Classes(b)
		least := map[int]int{}
		want := each(400, func(i int) int {
			c := classes[of[i]]
			if _, met := least[c]; !met {
				least[c] = i
			}
			return least[c]
		})
		checkWith(t, b, simpleClasses(b))
		checkWith(t, s, want)
		m := sketch.Reorder(s, r.Perm(400))
		if one, two := equal.Shrink(s), equal.Shrink(m); len(one.Nodes) != len(two.Nodes) || len(one.Nodes) != len(least) {
			t.Fatalf("P10.2: %d and %d nodes are kept in two orders, of %d classes", len(one.Nodes), len(two.Nodes), len(least))
		}
	}
}
