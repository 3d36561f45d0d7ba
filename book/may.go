package book

import (
	"repartee/api"
	"repartee/names"
)

// May reports whether b is valid.
func May(b api.Book) bool {
	if len(b.Nodes) > api.MaxNodes || len(b.Names) != len(b.Roots) || !rising(b.Names) {
		return false
	}
	for _, root := range b.Roots {
		if !isNode(b, root) {
			return false
		}
	}
	for _, n := range b.Nodes {
		if !validNode(b, n) {
			return false
		}
	}
	return true
}

// rising reports whether the strings are in ascending order without duplicates.
func rising(l []string) bool {
	for i := 1; i < len(l); i++ {
		if l[i-1] >= l[i] {
			return false
		}
	}
	return true
}

func isNode(b api.Book, at int) bool { return 0 <= at && at < len(b.Nodes) }

func validNode(b api.Book, n api.Node) bool {
	switch n.Kind {
	case api.End:
		return n.Peer == "" && len(n.Arms) == 0
	case api.Send, api.Recv:
		return names.May(n.Peer) && validEdges(b, n.Arms)
	}
	return false
}

func validEdges(b api.Book, edges []api.Edge) bool {
	if len(edges) < 1 || len(edges) > api.MaxArms {
		return false
	}
	var labels []string
	for _, e := range edges {
		if !names.May(e.Label) || !validSort(b, e.Sort) || !isNode(b, e.Next) {
			return false
		}
		labels = append(labels, e.Label)
	}
	return rising(labels)
}

func validSort(b api.Book, s api.Sort) bool {
	if s.Kind == api.Chan {
		return isNode(b, s.At)
	}
	return api.Unit <= s.Kind && s.Kind < api.Chan && s.At == 0
}
