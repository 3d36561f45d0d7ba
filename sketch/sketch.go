// Package sketch makes books for the tests of the layers that read books: small ones are written as text, and others are made from them.
package sketch

import (
	"strconv"
	"strings"

	"repartee/api"
)

// Book reads a book: each name with = and its root, and its nodes, all separated by blanks. It may be invalid.
func Book(roots, nodes string) api.Book {
	var b api.Book
	for _, word := range strings.Fields(roots) {
		name, root, _ := strings.Cut(word, "=")
		b.Names = append(b.Names, name)
		b.Roots = append(b.Roots, number(root))
	}
	for _, word := range strings.Fields(nodes) {
		b.Nodes = append(b.Nodes, Node(word))
	}
	return b
}

// Node reads a node: a dot (the end), or its Peer, then ! (a Send) or ? (a Recv), then its edges.
func Node(word string) api.Node {
	if peer, edges, is := strings.Cut(word, "!"); is {
		return api.Node{Kind: api.Send, Peer: peer, Arms: Edges(edges)}
	}
	if peer, edges, is := strings.Cut(word, "?"); is {
		return api.Node{Kind: api.Recv, Peer: peer, Arms: Edges(edges)}
	}
	return api.Node{}
}

// Edges reads edges, separated by commas: each is its label, perhaps a colon, a digit for the Kind that it carries, a dot and the At, and behind > the Next.
func Edges(text string) []api.Edge {
	var l []api.Edge
	for word := range strings.SplitSeq(text, ",") {
		what, next, _ := strings.Cut(word, ">")
		label, carries, _ := strings.Cut(what, ":")
		kind, at, _ := strings.Cut(carries, ".")
		l = append(l, api.Edge{Label: label, Sort: api.Sort{Kind: number(kind), At: number(at)}, Next: number(next)})
	}
	return l
}

// Numbers reads numbers, separated by blanks.
func Numbers(text string) []int {
	var l []int
	for _, word := range strings.Fields(text) {
		l = append(l, number(word))
	}
	return l
}

// number is 0 for no digits, as what an edge does not say is.
func number(text string) int {
	n, _ := strconv.Atoi(text)
	return n
}
