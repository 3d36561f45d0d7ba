package sketch

import (
	"slices"

	"repartee/api"
)

// Same reports whether two books are the same, name by name, root by root and node by node.
func Same(a, b api.Book) bool {
	return slices.Equal(a.Names, b.Names) && slices.Equal(a.Roots, b.Roots) && SameNodes(a.Nodes, b.Nodes)
}

// SameNodes reports whether two lists of nodes are the same.
func SameNodes(a, b []api.Node) bool {
	return slices.EqualFunc(a, b, func(x, y api.Node) bool {
		return x.Kind == y.Kind && x.Peer == y.Peer && slices.Equal(x.Arms, y.Arms)
	})
}

// Copy returns b in memory of its own.
func Copy(b api.Book) api.Book {
	c := api.Book{Nodes: slices.Clone(b.Nodes), Names: slices.Clone(b.Names), Roots: slices.Clone(b.Roots)}
	for i := range c.Nodes {
		c.Nodes[i].Arms = slices.Clone(c.Nodes[i].Arms)
	}
	return c
}

// Reorder returns a valid book with its nodes in another order: node i of b becomes node order[i].
func Reorder(b api.Book, order []int) api.Book {
	s := api.Book{Nodes: make([]api.Node, len(b.Nodes)), Names: slices.Clone(b.Names)}
	for i, n := range b.Nodes {
		m := api.Node{Kind: n.Kind, Peer: n.Peer}
		for _, e := range n.Arms {
			e.Next = order[e.Next]
			if e.Sort.Kind == api.Chan {
				e.Sort.At = order[e.Sort.At]
			}
			m.Arms = append(m.Arms, e)
		}
		s.Nodes[order[i]] = m
	}
	for _, root := range b.Roots {
		s.Roots = append(s.Roots, order[root])
	}
	return s
}

// Roomy returns a copy of b with two more in the memory beyond the length of each list, which would count if they were read.
func Roomy(b api.Book) api.Book {
	c := api.Book{
		Nodes: RoomyList(b.Nodes, api.Node{}, api.Node{Kind: 3}),
		Names: RoomyList(b.Names, "~", "beyond"),
		Roots: RoomyList(b.Roots, 0, -1),
	}
	for i := range c.Nodes {
		c.Nodes[i].Arms = RoomyList(c.Nodes[i].Arms, Edges("zz>0,a>-1")...)
	}
	return c
}

// Beyond returns what stands beyond the lists of a roomy book.
func Beyond(b api.Book) api.Book {
	c := api.Book{Nodes: BeyondList(b.Nodes), Names: BeyondList(b.Names), Roots: BeyondList(b.Roots)}
	for _, n := range b.Nodes {
		c.Nodes = append(c.Nodes, api.Node{Arms: BeyondList(n.Arms)})
	}
	return c
}

// Spoil writes to all memory of b, also to what an append would get.
func Spoil(b api.Book) {
	for _, n := range b.Nodes {
		SpoilList(n.Arms, api.Edge{Label: "spoiled", Sort: api.Sort{Kind: 9, At: -7}, Next: -7})
	}
	SpoilList(b.Nodes, api.Node{Kind: 9, Peer: "spoiled"})
	SpoilList(b.Names, "spoiled")
	SpoilList(b.Roots, -7)
}

// Apart reports whether no two nodes of b share memory. It writes to it.
func Apart(b api.Book) bool {
	var lists [][]api.Edge
	for _, n := range b.Nodes {
		lists = append(lists, n.Arms)
	}
	return ApartLists(lists, func(i int) api.Edge { return api.Edge{Next: i} })
}
