package under

import (
	"repartee/api"
)

// areNodes reports whether both numbers of the pair are indices of nodes.
func areNodes(b api.Book, pair [2]int) bool {
	for _, at := range pair {
		if at < 0 || at >= len(b.Nodes) {
			return false
		}
	}
	return true
}

// obligations returns what a pair of nodes asks for, and whether it is locally valid; if it is not, it asks for nothing.
func obligations(b api.Book, pair [2]int) ([][2]int, bool) {
	x, y := b.Nodes[pair[0]], b.Nodes[pair[1]]
	both := common(x, y)
	if x.Kind != y.Kind || x.Peer != y.Peer || len(both) < len(needed(x, y)) {
		return nil, false
	}
	var asked [][2]int
	for _, edges := range both {
		e, f := edges[0], edges[1]
		if e.Sort.Kind != f.Sort.Kind {
			return nil, false
		}
		if e.Sort.Kind == api.Chan {
			asked = append(asked, carried(x.Kind, e.Sort.At, f.Sort.At))
		}
		asked = append(asked, [2]int{e.Next, f.Next})
	}
	return asked, true
}

// common returns, for each label that both nodes have, in ascending order, x's edge and y's edge.
func common(x, y api.Node) [][2]api.Edge {
	var both [][2]api.Edge
	for _, e := range x.Arms {
		for _, f := range y.Arms {
			if e.Label == f.Label {
				both = append(both, [2]api.Edge{e, f})
			}
		}
	}
	return both
}

// needed returns the edges whose labels the other node must have too: what may be sent by y must be sendable by x, and what x may receive must be receivable by y.
func needed(x, y api.Node) []api.Edge {
	if x.Kind == api.Recv {
		return x.Arms
	}
	return y.Arms
}

// carried returns the pair that is asked of what both nodes carry. An end that is sent goes the other way than one that is received, so its pair is turned.
func carried(kind, x, y int) [2]int {
	if kind == api.Send {
		return [2]int{y, x}
	}
	return [2]int{x, y}
}
