package under_test

import (
	"math/rand"
	"slices"
	"testing"

	"repartee/api"
	"repartee/equal"
	"repartee/sketch"
	"repartee/under"
)

// someOf are the pairs of nodes of a book of n nodes that the bits of choice say.
func someOf(n, choice int) [][2]int {
	var l [][2]int
	for i := range n * n {
		if choice>>i&1 > 0 {
			l = append(l, [2]int{i / n, i % n})
		}
	}
	return l
}

// All books of up to three small nodes: two nodes have up to two labels, three nodes have one. Holds is asked about all sets of pairs of two nodes, and some of those of three.
func TestAllSmallBooks(t *testing.T) {
	r := rand.New(rand.NewSource(1))
	small := func(choices []int, nodes ...api.Node) {
		b := api.Book{Nodes: nodes}
		check(t, b)
		for _, choice := range choices {
			l := someOf(len(nodes), choice)
			checkHolds(t, b, l, simpleHolds(b, l))
		}
	}
	allOf16 := []int{0, 1, 2, 3, 4, 5, 6, 7, 8, 9, 10, 11, 12, 13, 14, 15}
	for _, x := range sketch.Plain(1, "x", "y") {
		small([]int{0, 1}, x)
	}
	two := sketch.Plain(2, "x", "y")
	for _, x := range two {
		for _, y := range two {
			small(allOf16, x, y)
		}
	}
	three := sketch.Plain(3, "x")
	for _, x := range three {
		for _, y := range three {
			for _, z := range three {
				small([]int{r.Intn(512), r.Intn(512), r.Intn(512)}, x, y, z)
			}
		}
	}
}

func pick[T any](r *rand.Rand, l ...T) T { return l[r.Intn(len(l))] }

// drawn is a book of n nodes of which some are likely to be under others.
func drawn(r *rand.Rand, n int) api.Book {
	peers, labels, chans := 1+r.Intn(2), []string{"w", "x", "y", "z"}[:1+r.Intn(4)], r.Intn(3)
	kinds := pick(r, []int{api.Send}, []int{api.Recv}, []int{api.Send, api.Recv}, []int{api.Send, api.Recv, api.End})
	var b api.Book
	for range n {
		x := api.Node{Kind: pick(r, kinds...), Peer: []string{"b", "c"}[r.Intn(peers)]}
		for _, label := range labels {
			if len(labels) > 1 && r.Intn(3) == 0 {
				continue
			}
			e := api.Edge{Label: label, Next: r.Intn(n)}
			if label != "y" && r.Intn(2) < chans {
				e.Sort = api.Sort{Kind: api.Chan, At: r.Intn(n)}
			}
			x.Arms = append(x.Arms, e)
		}
		if len(x.Arms) == 0 || x.Kind == api.End {
			x = api.Node{}
		}
		b.Nodes = append(b.Nodes, x)
	}
	return b
}

// varied is a book of n nodes, each a copy of a node of b that leads to any copies of the nodes that the other leads to, and perhaps without some labels.
func varied(r *rand.Rand, b api.Book, n int) api.Book {
	of := r.Perm(len(b.Nodes))
	for len(of) < n {
		of = append(of, r.Intn(len(b.Nodes)))
	}
	copyOf := func(i int) int {
		for {
			if k := r.Intn(n); of[k] == i {
				return k
			}
		}
	}
	var s api.Book
	seldom := 3 + r.Intn(4*n)
	for _, i := range of {
		x := api.Node{Kind: b.Nodes[i].Kind, Peer: b.Nodes[i].Peer}
		for k, e := range b.Nodes[i].Arms {
			left := len(b.Nodes[i].Arms) - k
			if r.Intn(seldom) == 0 && len(x.Arms)+left > 1 {
				continue
			}
			e.Next = copyOf(e.Next)
			if e.Sort.Kind == api.Chan {
				e.Sort.At = copyOf(e.Sort.At)
			}
			x.Arms = append(x.Arms, e)
		}
		s.Nodes = append(s.Nodes, x)
	}
	return s
}

// tally counts, for pairs of different nodes of the books of a test, how many are under each other both ways, one way and not at all.
type tally struct{ both, one, none int }

func (c *tally) add(b api.Book) {
	for x := range b.Nodes {
		for y := range x {
			one, two := under.Is(b, x, y), under.Is(b, y, x)
			switch {
			case one && two:
				c.both++
			case one || two:
				c.one++
			default:
				c.none++
			}
		}
	}
}

func (c *tally) check(t *testing.T, least int) {
	t.Helper()
	if min(c.both, c.one, c.none) < least {
		t.Errorf("too few pairs of one sort in the books of the test: %+v", *c)
	}
}

// checkSets checks Holds for sets of pairs of b that nearly hold: what Pairs returns for some nodes, with something left out, put in or changed.
func checkSets(t *testing.T, r *rand.Rand, b api.Book) {
	t.Helper()
	n := len(b.Nodes)
	for range 4 {
		var l [][2]int
		for range 1 + r.Intn(3) {
			pairs, _ := under.Pairs(b, r.Intn(n), r.Intn(n))
			l = append(l, pairs...)
		}
		r.Shuffle(len(l), func(i, j int) { l[i], l[j] = l[j], l[i] })
		checkHolds(t, b, l, true)
		if len(l) > 0 {
			i := r.Intn(len(l))
			less := slices.DeleteFunc(slices.Clone(l), func(p [2]int) bool { return p == l[i] })
			checkHolds(t, b, less, simpleHolds(b, less))
			turned := slices.Clone(l)
			turned[i][0], turned[i][1] = turned[i][1], turned[i][0]
			checkHolds(t, b, turned, simpleHolds(b, turned))
		}
		more := append(l, [2]int{r.Intn(n), r.Intn(n)})
		checkHolds(t, b, more, simpleHolds(b, more))
	}
}

func TestRandomBooks(t *testing.T) {
	r := rand.New(rand.NewSource(2))
	var seen tally
	for range 3000 {
		b := drawn(r, 1+r.Intn(8))
		check(t, b)
		checkSets(t, r, b)
		seen.add(b)
	}
	seen.check(t, 500)
}

func TestRandomVariations(t *testing.T) {
	r := rand.New(rand.NewSource(3))
	var seen tally
	for range 1500 {
		b := drawn(r, 1+r.Intn(3))
		b = varied(r, b, len(b.Nodes)+r.Intn(8))
		check(t, b)
		checkSets(t, r, b)
		seen.add(b)
	}
	seen.check(t, 1000)
}

func TestRandomLargeBooks(t *testing.T) {
	r := rand.New(rand.NewSource(4))
	var seen tally
	for range 12 {
		b := varied(r, drawn(r, 2+r.Intn(8)), 36)
		check(t, b)
		checkSets(t, r, b)
		seen.add(b)
	}
	for range 10 {
		b := varied(r, drawn(r, 1+r.Intn(5)), 400)
		set := simpleUnder(b)
		for range 20 {
			x, y := r.Intn(400), r.Intn(400)
			var want [][2]int
			if set[[2]int{x, y}] {
				want = simplePairs(b, x, y)
			}
			checkLarge(t, b, x, y, want)
		}
	}
	seen.check(t, 50)
}

// What is under what, and in which order the pairs are met, does not depend on where the nodes stand.
func TestOrderOfNodes(t *testing.T) {
	r := rand.New(rand.NewSource(5))
	for range 500 {
		b := varied(r, drawn(r, 1+r.Intn(3)), 3+r.Intn(4))
		n := len(b.Nodes)
		order := r.Perm(n)
		s := sketch.Reorder(b, order)
		for x := range n {
			for y := range n {
				want, is := under.Pairs(b, x, y)
				for i, p := range want {
					want[i] = [2]int{order[p[0]], order[p[1]]}
				}
				got, too := under.Pairs(s, order[x], order[y])
				if is != too || !slices.Equal(got, want) {
					t.Fatalf("P11.2: Pairs of nodes %d and %d of %v in the order %v", x, y, b, order)
				}
			}
		}
	}
}

// Where nothing carries an end, to send what another node receives turns all around.
func TestSendsAndRecvsAreTheOtherWayRound(t *testing.T) {
	r := rand.New(rand.NewSource(6))
	var seen tally
	for range 500 {
		b := varied(r, drawn(r, 1+r.Intn(3)), 3+r.Intn(4))
		for i := range b.Nodes {
			for k := range b.Nodes[i].Arms {
				b.Nodes[i].Arms[k].Sort = api.Sort{}
			}
		}
		other := sketch.Copy(b)
		for i, n := range b.Nodes {
			other.Nodes[i].Kind = []int{api.End, api.Recv, api.Send}[n.Kind]
		}
		for x := range b.Nodes {
			for y := range b.Nodes {
				if under.Is(b, x, y) != under.Is(other, y, x) {
					t.Fatalf("P11.1: nodes %d and %d of %v, and of the book that says what it hears", x, y, b)
				}
			}
		}
		seen.add(b)
	}
	seen.check(t, 300)
}

// Nodes that are equal are under the same nodes, and the same nodes are under them.
func TestShrunkBooks(t *testing.T) {
	r := rand.New(rand.NewSource(7))
	var seen tally
	for range 300 {
		b := varied(r, drawn(r, 1+r.Intn(3)), 3+r.Intn(5))
		for range 3 { // copies of nodes, so that some are equal
			b.Nodes = append(b.Nodes, b.Nodes[r.Intn(len(b.Nodes))])
		}
		b.Names, b.Roots = nil, nil
		for i := range b.Nodes {
			b.Names, b.Roots = append(b.Names, string(rune('a'+i))), append(b.Roots, i)
		}
		s := equal.Shrink(b)
		for x := range b.Nodes {
			for y := range b.Nodes {
				if under.Is(b, x, y) != under.Is(s, s.Roots[x], s.Roots[y]) {
					t.Fatalf("P11.3: nodes %d and %d of %v, and of its shrunk book", x, y, b)
				}
			}
		}
		for x := range s.Nodes {
			for y := range x {
				if under.Is(s, x, y) && under.Is(s, y, x) {
					t.Fatalf("P11.3: nodes %d and %d of the shrunk book %v are under each other", x, y, s)
				}
			}
		}
		seen.add(b)
	}
	seen.check(t, 300)
}
