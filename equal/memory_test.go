package equal_test

import (
	"slices"
	"testing"

	"repartee/api"
	"repartee/equal"
	"repartee/sketch"
)

// someBooks are the valid books of the tables.
func someBooks() []api.Book {
	var l []api.Book
	for _, c := range shrunk {
		b := sketch.Book(c.roots, c.nodes)
		b.Names, b.Roots = inOrder(b)
		l = append(l, b)
	}
	for _, c := range classesOf {
		l = append(l, sketch.Book("", c.nodes))
	}
	return l
}

func TestNothingBeyondTheListsOfABookIsReadOrWritten(t *testing.T) {
	for _, plain := range someBooks() {
		b := sketch.Roomy(plain)
		before := sketch.Beyond(b)
		checkWith(t, b, simpleClasses(plain))
		if s := equal.Shrink(b); !sketch.Same(s, equal.Shrink(plain)) {
			t.Errorf("P0.4: memory beyond the lists of %v was read: %v", plain, s)
		}
		if !sketch.Same(sketch.Beyond(b), before) {
			t.Errorf("P0.4: memory beyond the lists of %v was written", plain)
		}
	}
	for _, plain := range sketch.Invalid() {
		if len(plain.Nodes) > 400 {
			continue
		}
		b := sketch.Roomy(plain)
		before := sketch.Beyond(b)
		checkInvalid(t, b)
		if !sketch.Same(sketch.Beyond(b), before) {
			t.Errorf("P0.4: memory beyond the lists of %v was written", plain)
		}
	}
}

// spoil writes to all memory of a book, also to what an append would get.
func spoil(b api.Book) {
	nodes, names, roots := b.Nodes[:cap(b.Nodes)], b.Names[:cap(b.Names)], b.Roots[:cap(b.Roots)]
	for i := range nodes {
		arms := nodes[i].Arms[:cap(nodes[i].Arms)]
		for j := range arms {
			arms[j] = api.Edge{Label: "spoiled", Sort: api.Sort{Kind: 9, At: -7}, Next: -7}
		}
		nodes[i] = api.Node{Kind: 9, Peer: "spoiled"}
	}
	for i := range names {
		names[i] = "spoiled"
	}
	for i := range roots {
		roots[i] = -7
	}
}

func TestResultsAreNewMemory(t *testing.T) {
	for _, plain := range someBooks() {
		for _, b := range []api.Book{sketch.Copy(plain), sketch.Roomy(plain)} {
			want, wantClasses := simpleShrink(plain, simpleClasses(plain)), simpleClasses(plain)
			s, other := equal.Shrink(b), equal.Shrink(b)
			classes, otherClasses := equal.Classes(b), equal.Classes(b)
			spoil(s)
			for i := range classes[:cap(classes)] {
				classes[:cap(classes)][i] = -7
			}
			if !sketch.Same(b, plain) {
				t.Errorf("P0.4: a result shares its memory with the book %v", plain)
			}
			if !sketch.Same(other, want) || !slices.Equal(otherClasses, wantClasses) {
				t.Errorf("P0.4: two results for the book %v share memory", plain)
			}
			if !sketch.Same(equal.Shrink(b), want) || !slices.Equal(equal.Classes(b), wantClasses) {
				t.Errorf("P0.5: the results for the book %v are others when they were asked before", plain)
			}
			spoil(b)
			if !sketch.Same(other, want) {
				t.Errorf("P0.4: the shrunk book changes with the book %v", plain)
			}
		}
	}
}

// A shrunk book from which nothing is left out, and the book that was already shrunk, share nothing with it either.
func TestShrunkBooksAreNewMemoryAgain(t *testing.T) {
	for _, plain := range someBooks() {
		one := equal.Shrink(plain)
		two := equal.Shrink(one)
		spoil(one)
		if !sketch.Same(two, simpleShrink(plain, simpleClasses(plain))) {
			t.Errorf("P0.4: the Shrink of a shrunk book shares its memory: %v", plain)
		}
	}
}

// No two nodes of a shrunk book share memory: an edge that is added to one, or changed in it, is in no other.
func TestNodesOfAShrunkBookShareNoMemory(t *testing.T) {
	for _, plain := range someBooks() {
		want := equal.Shrink(plain)
		for i := range want.Nodes {
			s := equal.Shrink(plain)
			arms := s.Nodes[i].Arms
			for j := range arms[:cap(arms)] {
				arms[:cap(arms)][j] = api.Edge{Label: "spoiled"}
			}
			s.Nodes[i].Arms = append(arms, api.Edge{Label: "added"})
			for k := range want.Nodes {
				if k != i && !slices.Equal(s.Nodes[k].Arms, want.Nodes[k].Arms) {
					t.Fatalf("P0.4: nodes %d and %d of Shrink(%v) share memory", i, k, plain)
				}
			}
		}
	}
}

func TestNilAndEmptyListsAreTheSame(t *testing.T) {
	for _, b := range []api.Book{{}, {Nodes: []api.Node{}, Names: []string{}, Roots: []int{}}, {Names: []string{}}, {Roots: []int{}}} {
		check(t, b)
		if s := equal.Shrink(b); len(s.Nodes)+len(s.Names)+len(s.Roots) > 0 {
			t.Errorf("P10.2: Shrink(%v) = %v", b, s)
		}
	}
	b := api.Book{Nodes: []api.Node{{}, {Arms: []api.Edge{}}, {}}, Names: []string{}}
	checkWith(t, b, []int{0, 0, 0})
}
