package equal_test

import (
	"slices"
	"testing"

	"repartee/api"
	"repartee/equal"
	"repartee/sketch"
)

// someBooks are the valid books of the tables.
func someBooks() []api.Book {
	var l []api.Book
	for _, c := range shrunk {
		b := sketch.Book(c.roots, c.nodes)
		b.Names, b.Roots = inOrder(b)
		l = append(l, b)
	}
	for _, c := range classesOf {
		l = append(l, sketch.Book("", c.nodes))
	}
	return l
}

func TestNothingBeyondTheListsOfABookIsReadOrWritten(t *testing.T) {
	for _, plain := range someBooks() {
		b := sketch.Roomy(plain)
		before := sketch.Beyond(b)
		checkWith(t, b, simpleClasses(plain))
		if s := equal.Shrink(b); !sketch.Same(s, equal.Shrink(plain)) {
			t.Errorf("P0.4: memory beyond the lists of %v was read: %v", plain, s)
		}
		if !sketch.Same(sketch.Beyond(b), before) {
			t.Errorf("P0.4: memory beyond the lists of %v was written", plain)
		}
	}
	for _, plain := range sketch.Invalid() {
		if len(plain.Nodes) > 400 {
			continue
		}
		b := sketch.Roomy(plain)
		before := sketch.Beyond(b)
		checkInvalid(t, b)
		if !sketch.Same(sketch.Beyond(b), before) {
			t.Errorf("P0.4: memory beyond the lists of %v was written", plain)
		}
	}
}

func TestResultsAreNewMemory(t *testing.T) {
	for _, plain := range someBooks() {
		for _, b := range []api.Book{sketch.Copy(plain), sketch.Roomy(plain)} {
			want, wantClasses := simpleShrink(plain, simpleClasses(plain)), simpleClasses(plain)
			s, other := equal.Shrink(b), equal.Shrink(b)
			classes, otherClasses := equal.Classes(b), equal.Classes(b)
			sketch.Spoil(s)
			sketch.SpoilList(classes, -7)
			if !sketch.Same(b, plain) {
				t.Errorf("P0.4: a result shares its memory with the book %v", plain)
			}
			if !sketch.Same(other, want) || !slices.Equal(otherClasses, wantClasses) {
				t.Errorf("P0.4: two results for the book %v share memory", plain)
			}
			if !sketch.Same(equal.Shrink(b), want) || !slices.Equal(equal.Classes(b), wantClasses) {
				t.Errorf("P0.5: the results for the book %v are others when they were asked before", plain)
			}
			sketch.Spoil(b)
			if !sketch.Same(other, want) {
				t.Errorf("P0.4: the shrunk book changes with the book %v", plain)
			}
		}
	}
}

// A shrunk book from which nothing is left out, and the book that was already shrunk, share nothing with it either.
func TestShrunkBooksAreNewMemoryAgain(t *testing.T) {
	for _, plain := range someBooks() {
		one := equal.Shrink(plain)
		two := equal.Shrink(one)
		sketch.Spoil(one)
		if !sketch.Same(two, simpleShrink(plain, simpleClasses(plain))) {
			t.Errorf("P0.4: the Shrink of a shrunk book shares its memory: %v", plain)
		}
	}
}

// An edge that is added to one node, or changed in it, is in no other.
func TestNodesOfAShrunkBookShareNoMemory(t *testing.T) {
	for _, plain := range someBooks() {
		if !sketch.Apart(equal.Shrink(plain)) {
			t.Errorf("P0.4: nodes of Shrink(%v) share memory", plain)
		}
	}
}

func TestNilAndEmptyListsAreTheSame(t *testing.T) {
	for _, b := range []api.Book{{}, {Nodes: []api.Node{}, Names: []string{}, Roots: []int{}}, {Names: []string{}}, {Roots: []int{}}} {
		check(t, b)
		if s := equal.Shrink(b); len(s.Nodes)+len(s.Names)+len(s.Roots) > 0 {
			t.Errorf("P10.2: Shrink(%v) = %v", b, s)
		}
	}
	b := api.Book{Nodes: []api.Node{{}, {Arms: []api.Edge{}}, {}}, Names: []string{}}
	checkWith(t, b, []int{0, 0, 0})
}
