package equal

import (
	"slices"

	"repartee/api"
	"repartee/book"
)

// Shrink returns b with one node of each class alone, the least one.
func Shrink(b api.Book) api.Book {
	if !book.May(b) {
		return api.Book{}
	}
	classes := Classes(b)
	index := renumber(classes)
	s := api.Book{Names: slices.Clone(b.Names)}
	for i, n := range b.Nodes {
		if classes[i] == i {
			s.Nodes = append(s.Nodes, moved(n, index))
		}
	}
	for _, root := range b.Roots {
		s.Roots = append(s.Roots, index[root])
	}
	return s
}

// renumber returns, for each node, the index that its class has when the least nodes alone are kept.
func renumber(classes []int) []int {
	index := make([]int, len(classes))
	kept := 0
	for i, least := range classes {
		if least == i {
			index[i] = kept
			kept++
		} else {
			index[i] = index[least]
		}
	}
	return index
}

// moved returns n with these new indices of what it leads to.
func moved(n api.Node, index []int) api.Node {
	m := api.Node{Kind: n.Kind, Peer: n.Peer}
	for _, e := range n.Arms {
		// Where no Chan is carried At is 0, and so is the new index of node 0.
		carried := api.Sort{Kind: e.Sort.Kind, At: index[e.Sort.At]}
		m.Arms = append(m.Arms, api.Edge{Label: e.Label, Sort: carried, Next: index[e.Next]})
	}
	return m
}
