package equal_test

import (
	"slices"
	"strings"
	"testing"

	"repartee/api"
	"repartee/equal"
	"repartee/sketch"
)

// made is a book of n nodes, in which node i is what build says, with Names for its first, its middle and its last node.
func made(n int, build func(i int) api.Node) api.Book {
	b := sketch.Made(n, build)
	b.Names, b.Roots = []string{"a", "b", "c"}, []int{0, n / 2, n - 1}
	return b
}

func first(int) int { return 0 }

var sixLabels = strings.Split("abcdef", "")

func TestMaxNodesAllEqual(t *testing.T) {
	for _, build := range []func(i int) api.Node{
		func(int) api.Node { return api.Node{} },
		func(i int) api.Node { return sketch.To(i, -1, "x") },
		func(i int) api.Node { return sketch.To((i+1)%400, -1, "x") },
		func(i int) api.Node { return sketch.To((i+399)%400, (i+1)%400, "x", "y") },
		func(i int) api.Node { return sketch.To(i*i%400, i*7%400, sixLabels...) },
		func(i int) api.Node { return sketch.To(max(i-1, 0), 399-i, "x") },
	} {
		b := made(400, build)
		checkWith(t, b, each(400, first))
		s := equal.Shrink(b)
		if len(s.Nodes) != 1 || !slices.Equal(s.Roots, []int{0, 0, 0}) {
			t.Error("P10.2: Shrink of 400 equal nodes:", s)
		}
	}
}

// chain is a book in which each node is what build says, but the last one, which alone is another.
func chain(build func(i int) api.Node, last api.Node) api.Book {
	return made(400, func(i int) api.Node {
		if i == 399 {
			return last
		}
		return build(i)
	})
}

func next(i int) api.Node { return sketch.To(i+1, -1, "x") }

// The nodes differ from the last one by how many labels lead there, so one round of refining tells one more node apart.
func TestMaxNodesToldApartOneByOne(t *testing.T) {
	for _, build := range []func(i int) api.Node{
		next,
		func(i int) api.Node { return sketch.To(i+1, -1, sixLabels...) },
		func(i int) api.Node { return sketch.To(i+1, i+1, sixLabels...) },
		func(i int) api.Node { return sketch.To(0, i+1, "x") },
		func(i int) api.Node { return sketch.To(i+1, i, "x") },
	} {
		checkWith(t, chain(build, api.Node{}), each(400, itself))
	}
	for _, last := range []string{"b?x>0", "c!x>0", "b!y>0", "b!x>0,y>0", "b!x:1>0"} {
		checkWith(t, chain(next, sketch.Node(last)), each(400, itself))
	}
}

// The same nodes in other orders: from the last to the first, and mixed.
func TestMaxNodesToldApartInOtherOrders(t *testing.T) {
	b := chain(next, api.Node{})
	for _, order := range []func(i int) int{
		func(i int) int { return 399 - i },
		func(i int) int { return i * 77 % 400 },
		func(i int) int { return (i + 200) % 400 },
	} {
		checkWith(t, sketch.Reorder(b, each(400, order)), each(400, itself))
	}
}

// Parts that are alike node by node, and parts that only look so.
func TestMaxNodesInParts(t *testing.T) {
	// Two chains of 200, and then one of 300 and one of 100, which is like the latter part of the first.
	for _, end := range []int{199, 299} {
		b := chain(next, api.Node{})
		b.Nodes[end] = api.Node{}
		checkWith(t, b, each(400, func(i int) int {
			if i > end {
				return i - 399 + end
			}
			return i
		}))
	}
	// A cycle that says y at every eighth node: the nodes eight apart are equal.
	checkWith(t, made(400, func(i int) api.Node {
		if i%8 == 5 {
			return sketch.To((i+1)%400, -1, "y")
		}
		return sketch.To((i+1)%400, -1, "x")
	}), each(400, func(i int) int { return i % 8 }))
	// A cycle of which one node alone says y: no two nodes are equal.
	checkWith(t, made(400, func(i int) api.Node {
		if i == 123 {
			return sketch.To(124, -1, "y")
		}
		return sketch.To((i+1)%400, -1, "x")
	}), each(400, itself))
}

// One node more than MaxNodes, and nothing is said.
func TestMoreThanMaxNodes(t *testing.T) {
	for _, build := range []func(i int) api.Node{
		func(int) api.Node { return api.Node{} },
		func(i int) api.Node { return sketch.To(i, -1, "x") },
		func(i int) api.Node { return sketch.To((i+1)%401, -1, "x") },
	} {
		checkInvalid(t, made(401, build))
		b := made(401, build)
		b.Names, b.Roots = nil, nil
		checkInvalid(t, b)
	}
	checkInvalid(t, made(100000, func(int) api.Node { return api.Node{} }))
}
