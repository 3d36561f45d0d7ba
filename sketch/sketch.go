// Package sketch makes local types, protocols, books, stages and sessions for the tests of the layers that read them: small ones are written as text, and others are made from them or drawn.
package sketch

import (
	"strconv"
	"strings"

	"repartee/api"
)

// Book reads a book: each name with = and its root, and its nodes, all separated by blanks. It may be invalid.
func Book(roots, nodes string) api.Book {
	var b api.Book
	for _, word := range strings.Fields(roots) {
		name, root, _ := strings.Cut(word, "=")
		b.Names = append(b.Names, name)
		b.Roots = append(b.Roots, number(root))
	}
	for _, word := range strings.Fields(nodes) {
		b.Nodes = append(b.Nodes, Node(word))
	}
	return b
}

// Node reads a node: a dot (the end), or its Peer, then ! (a Send) or ? (a Recv), then its edges.
func Node(word string) api.Node {
	kind, peer, edges := step(word)
	return api.Node{Kind: kind, Peer: peer, Arms: Edges(edges)}
}

// step reads the Kind and the Peer of a node or turn, and leaves what follows as it is.
func step(word string) (kind int, peer, rest string) {
	if peer, rest, is := strings.Cut(word, "!"); is {
		return api.Send, peer, rest
	}
	if peer, rest, is := strings.Cut(word, "?"); is {
		return api.Recv, peer, rest
	}
	return api.End, "", ""
}

// Edges reads edges, separated by commas: each is its label, perhaps a colon, a digit for the Kind that it carries, a dot and the At, and behind > the Next.
func Edges(text string) []api.Edge {
	var l []api.Edge
	for _, word := range words(text) {
		label, carries, next := choice(word)
		kind, at, _ := strings.Cut(carries, ".")
		l = append(l, api.Edge{Label: label, Sort: api.Sort{Kind: number(kind), At: number(at)}, Next: next})
	}
	return l
}

// words returns what stands between commas.
func words(text string) []string {
	return strings.FieldsFunc(text, func(r rune) bool { return r == ',' })
}

// choice reads the label and the Next of an edge or arm, and leaves what it carries as it is.
func choice(word string) (label, carries string, next int) {
	what, to, _ := strings.Cut(word, ">")
	label, carries, _ = strings.Cut(what, ":")
	return label, carries, number(to)
}

// Numbers reads numbers, separated by blanks.
func Numbers(text string) []int {
	var l []int
	for _, word := range strings.Fields(text) {
		l = append(l, number(word))
	}
	return l
}

// number is 0 for no digits, as what an edge does not say is.
func number(text string) int {
	n, _ := strconv.Atoi(text)
	return n
}
