package under_test

import (
	"slices"
	"strings"
	"testing"

	"repartee/api"
	"repartee/equal"
	"repartee/sketch"
	"repartee/under"
)

var sixLabels = strings.Split("abcdef", "")

// hears is the node that receives what n sends.
func hears(n api.Node) api.Node {
	n.Kind = api.Recv
	return n
}

// chain is a book of n nodes, in which node i is what build says, but the last one, which is an End.
func chain(n int, build func(i int) api.Node) api.Book {
	b := sketch.Made(n, build)
	b.Nodes[n-1] = api.Node{}
	return b
}

// checkLarge checks what is said of nodes x and y of a large book, of which the pairs are known if x is under y.
func checkLarge(t *testing.T, b api.Book, x, y int, want [][2]int) {
	t.Helper()
	before := sketch.Copy(b)
	l, is := under.Pairs(b, x, y)
	if is != (len(want) > 0) || !slices.Equal(l, want) {
		t.Fatalf("P11.2: Pairs of nodes %d and %d of a large book has %d pairs, want %d: %v, want %v", x, y, len(l), len(want), l[:min(len(l), 20)], want[:min(len(want), 20)])
	}
	if under.Is(b, x, y) != is {
		t.Fatalf("P11.1: Is of nodes %d and %d of a large book", x, y)
	}
	if !under.Holds(b, l) {
		t.Fatalf("P11.3: Holds of what Pairs returns for nodes %d and %d of a large book is false", x, y)
	}
	if !sketch.Same(b, before) {
		t.Fatalf("P0.4: a large book was changed")
	}
}

// round is the pairs that two numbers go through, step by step, until they are met again.
func round(x, y int, step func(x, y int) (int, int)) [][2]int {
	var l [][2]int
	met := map[[2]int]bool{}
	for !met[[2]int{x, y}] {
		met[[2]int{x, y}] = true
		l = append(l, [2]int{x, y})
		x, y = step(x, y)
	}
	return l
}

func TestMaxNodesInTwoCycles(t *testing.T) {
	// Cycles of 199 and 201 nodes, which have no factor in common, so each node of the one meets each of the other.
	after := func(i int) int {
		switch i {
		case 198:
			return 0
		case 399:
			return 199
		}
		return i + 1
	}
	on := func(x, y int) (int, int) { return after(x), after(y) }
	more := func(i int) []string { // the first cycle has more labels
		if i < 199 {
			return []string{"w", "x", "z"}
		}
		return []string{"x"}
	}
	b := sketch.Made(400, func(i int) api.Node { return sketch.To(after(i), -1, more(i)...) })
	want := round(0, 199, on)
	if len(want) != 199*201 {
		t.Fatal("a test with", len(want), "pairs")
	}
	checkLarge(t, b, 0, 199, want)
	checkLarge(t, b, 199, 0, nil)
	for _, i := range []int{0, 1, 20000, len(want) - 1} {
		if under.Holds(b, slices.Delete(slices.Clone(want), i, i+1)) {
			t.Error("P11.1: Holds of 39998 of 39999 pairs that ask for each other, without the one at", i)
		}
	}
	if under.Holds(b, append(slices.Clone(want), [2]int{199, 0})) {
		t.Error("P11.1: Holds of 39999 pairs and one that is not right")
	}
	if !under.Holds(b, append(slices.Clone(want), want...)) {
		t.Error("P11.1: Holds of 39999 pairs that come twice is false")
	}

	// One node near the end of the second cycle says more: it is the last but one pair of the round that is wrong.
	at := want[len(want)-2]
	b.Nodes[at[1]] = sketch.To(after(at[1]), -1, "x", "y")
	checkLarge(t, b, 0, 199, nil)

	b = sketch.Made(400, func(i int) api.Node { return hears(sketch.To(after(i), -1, more(i)...)) })
	checkLarge(t, b, 199, 0, round(199, 0, on))
	checkLarge(t, b, 0, 199, nil)

	// Ats that go round: a Send turns them, a Recv does not.
	b = sketch.Made(400, func(i int) api.Node { return sketch.To(i, after(i), "x") })
	checkLarge(t, b, 7, 207, round(7, 207, func(x, y int) (int, int) { return after(y), after(x) }))
	b = sketch.Made(400, func(i int) api.Node { return hears(sketch.To(i, after(i), "x")) })
	checkLarge(t, b, 7, 207, round(7, 207, on))
}

// A cycle of all 400 nodes, and a label that changes places of the first two: each pair of two nodes leads to each other such pair.
func TestMaxNodesWithAllPairs(t *testing.T) {
	change := func(i int) int {
		if i < 2 {
			return 1 - i
		}
		return i
	}
	for _, kind := range []int{api.Send, api.Recv} {
		b := sketch.Made(400, func(i int) api.Node {
			return api.Node{Kind: kind, Peer: "b", Arms: []api.Edge{{Label: "x", Next: (i + 1) % 400}, {Label: "y", Next: change(i)}}}
		})
		want := simplePairs(b, 5, 300)
		if len(want) != 400*399 {
			t.Fatal("a test with", len(want), "pairs")
		}
		checkLarge(t, b, 5, 300, want)
		same := simplePairs(b, 3, 3)
		checkLarge(t, b, 3, 3, same)
		if len(same) != 400 || !under.Holds(b, slices.Concat(want, same)) {
			t.Error("P11.1: Holds of all pairs of 400 nodes is false")
		}
		// With one node that says or hears something else, no pair of two others is right any more.
		b.Nodes[123].Arms[1].Label = "z"
		checkLarge(t, b, 5, 300, nil)
		checkLarge(t, b, 3, 3, same)
		if under.Holds(b, slices.Concat(want, same)) {
			t.Error("P11.1: Holds of all pairs of 400 nodes of which one is another")
		}
	}
}

// All 400 nodes lead to the next one, so that a node is under none but itself, as the ways to the End have other lengths.
func TestMaxNodesInAChain(t *testing.T) {
	for _, build := range []func(i int) api.Node{
		func(i int) api.Node { return sketch.To(i+1, -1, "x") },
		func(i int) api.Node { return hears(sketch.To(i+1, -1, sixLabels...)) },
		func(i int) api.Node { return sketch.To(i+1, i+1, sixLabels...) },
		func(i int) api.Node { return hears(sketch.To(i, i+1, "x")) },
	} {
		b := chain(400, build)
		for _, x := range []int{0, 1, 200, 398, 399} {
			for _, y := range []int{0, 1, 2, 199, 200, 398, 399} {
				var want [][2]int
				if x == y {
					want = simplePairs(b, x, x)
				}
				checkLarge(t, b, x, y, want)
			}
			for _, odd := range []int{-1, 400} {
				checkNotUnder(t, b, x, odd)
				checkNotUnder(t, b, odd, x)
				checkHolds(t, b, [][2]int{{399, 399}, {x, odd}}, false)
			}
		}
	}
}

// Two chains of 200 nodes: the first says more, or hears less, at its last node but one.
func TestMaxNodesInTwoChains(t *testing.T) {
	for _, kind := range []int{api.Send, api.Recv} {
		b := chain(400, func(i int) api.Node {
			n := sketch.To(i+1, -1, "x")
			n.Kind = kind
			return n
		})
		b.Nodes[199] = api.Node{}
		var pairs, back [][2]int
		for i := range 200 {
			pairs, back = append(pairs, [2]int{i, i + 200}), append(back, [2]int{i + 200, i})
		}
		checkLarge(t, b, 0, 200, pairs)
		checkLarge(t, b, 200, 0, back)
		b.Nodes[198].Arms = sketch.Edges("w>0,x>199,y>0")
		if kind == api.Send {
			checkLarge(t, b, 0, 200, pairs)
			checkLarge(t, b, 200, 0, nil)
		} else {
			checkLarge(t, b, 0, 200, nil)
			checkLarge(t, b, 200, 0, back)
		}
		if equal.Same(b, 0, 200) {
			t.Error("P11.3: nodes that are under each other one way alone are equal")
		}
	}
}

// Ends alone: each pair holds, and no pair asks for another one.
func TestMaxNodesThatAreEnds(t *testing.T) {
	b := api.Book{Nodes: make([]api.Node, 400)}
	for _, pair := range [][2]int{{0, 399}, {399, 0}, {7, 7}, {398, 399}} {
		checkLarge(t, b, pair[0], pair[1], [][2]int{pair})
	}
	var l [][2]int
	for i := range 160000 {
		l = append(l, [2]int{i / 400, i % 400})
	}
	checkHolds(t, b, l, true)
	checkHolds(t, b, append(l, [2]int{400, 399}), false)
	l[159999][1] = 400
	checkHolds(t, b, l, false)
	checkHolds(t, b, slices.Repeat([][2]int{{399, 399}}, 1000000), true)
}

// One node more than MaxNodes, and nothing is said.
func TestMoreThanMaxNodes(t *testing.T) {
	for _, n := range []int{401, 100000} {
		checkInvalid(t, api.Book{Nodes: make([]api.Node, n)})
		checkInvalid(t, chain(n, func(i int) api.Node { return sketch.To(i+1, -1, "x") }))
		checkInvalid(t, sketch.Made(n, func(i int) api.Node { return sketch.To(i, -1, "x") }))
	}
}
