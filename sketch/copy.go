package sketch

import (
	"slices"

	"repartee/api"
)

// Same reports whether two books are the same, name by name, root by root and node by node.
func Same(a, b api.Book) bool {
	return slices.Equal(a.Names, b.Names) && slices.Equal(a.Roots, b.Roots) && SameNodes(a.Nodes, b.Nodes)
}

// SameNodes reports whether two lists of nodes are the same.
func SameNodes(a, b []api.Node) bool {
	return slices.EqualFunc(a, b, func(x, y api.Node) bool {
		return x.Kind == y.Kind && x.Peer == y.Peer && slices.Equal(x.Arms, y.Arms)
	})
}

// Copy returns b in memory of its own.
func Copy(b api.Book) api.Book {
	c := api.Book{Nodes: slices.Clone(b.Nodes), Names: slices.Clone(b.Names), Roots: slices.Clone(b.Roots)}
	for i := range c.Nodes {
		c.Nodes[i].Arms = slices.Clone(c.Nodes[i].Arms)
	}
	return c
}

// Reorder returns a valid book with its nodes in another order: node i of b becomes node order[i].
func Reorder(b api.Book, order []int) api.Book {
	s := api.Book{Nodes: make([]api.Node, len(b.Nodes)), Names: slices.Clone(b.Names)}
	for i, n := range b.Nodes {
		m := api.Node{Kind: n.Kind, Peer: n.Peer}
		for _, e := range n.Arms {
			e.Next = order[e.Next]
			if e.Sort.Kind == api.Chan {
				e.Sort.At = order[e.Sort.At]
			}
			m.Arms = append(m.Arms, e)
		}
		s.Nodes[order[i]] = m
	}
	for _, root := range b.Roots {
		s.Roots = append(s.Roots, order[root])
	}
	return s
}

// RoomyList returns a copy of l with memory beyond its length, in which these stand.
func RoomyList[T any](l []T, beyond ...T) []T {
	return append(slices.Clone(l), beyond...)[:len(l)]
}

// Roomy returns a copy of b with two more in the memory beyond the length of each list, which would count if they were read.
func Roomy(b api.Book) api.Book {
	c := api.Book{
		Nodes: RoomyList(b.Nodes, api.Node{}, api.Node{Kind: 3}),
		Names: RoomyList(b.Names, "~", "beyond"),
		Roots: RoomyList(b.Roots, 0, -1),
	}
	for i := range c.Nodes {
		c.Nodes[i].Arms = RoomyList(c.Nodes[i].Arms, Edges("zz>0,a>-1")...)
	}
	return c
}

// BeyondList returns a copy of the next two in the memory beyond the length of a roomy list.
func BeyondList[T any](l []T) []T {
	return slices.Clone(l[len(l) : len(l)+2])
}

// Beyond returns what stands beyond the lists of a roomy book.
func Beyond(b api.Book) api.Book {
	c := api.Book{Nodes: BeyondList(b.Nodes), Names: BeyondList(b.Names), Roots: BeyondList(b.Roots)}
	for _, n := range b.Nodes {
		c.Nodes = append(c.Nodes, api.Node{Arms: BeyondList(n.Arms)})
	}
	return c
}
