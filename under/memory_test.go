package under_test

import (
	"slices"
	"testing"

	"repartee/api"
	"repartee/sketch"
	"repartee/under"
)

// someBooks are the valid books of the tables.
func someBooks() []api.Book {
	var l []api.Book
	for _, c := range isUnder {
		l = append(l, sketch.Book("", c.nodes))
	}
	for _, c := range pairsUnder {
		b := sketch.Book("", c.nodes)
		b.Names, b.Roots = []string{"a", "b"}, []int{0, len(b.Nodes) - 1}
		l = append(l, b)
	}
	return l
}

func TestNothingBeyondTheListsOfABookIsReadOrWritten(t *testing.T) {
	look := func(plain api.Book, checked func(t *testing.T, b api.Book)) {
		b := sketch.Roomy(plain)
		before := sketch.Beyond(b)
		checked(t, b)
		if !sketch.Same(sketch.Beyond(b), before) {
			t.Errorf("P0.4: memory beyond the lists of %v was written", plain)
		}
	}
	for _, plain := range someBooks() {
		look(plain, check)
	}
	for _, plain := range sketch.Invalid() {
		if len(plain.Nodes) <= 400 {
			look(plain, checkInvalid)
		}
	}
}

func TestNothingBeyondAListOfPairsIsReadOrWritten(t *testing.T) {
	for _, c := range held {
		b := sketch.Book("", c.nodes)
		for _, more := range [][][2]int{{{-1, 400}, {0, 0}}, {{0, 0}, {-1, 400}}, pairsOf("2/3 4/7"), pairsOf("3/2 2/5")} {
			l := sketch.RoomyList(pairsOf(c.pairs), more...)
			checkHolds(t, b, l, c.want)
			if !slices.Equal(sketch.BeyondList(l), more) {
				t.Errorf("P0.4: memory beyond %s was written", c.pairs)
			}
		}
		// The rest of a list may be what is asked for, and does not count.
		for _, long := range held {
			if all := pairsOf(long.pairs); long.nodes == c.nodes && len(all) > 0 {
				l := all[:len(all)-1]
				checkHolds(t, b, l, simpleHolds(b, slices.Clone(l)))
			}
		}
	}
}

func TestResultsAreNewMemory(t *testing.T) {
	for _, plain := range someBooks() {
		for _, b := range []api.Book{sketch.Copy(plain), sketch.Roomy(plain)} {
			for x := range b.Nodes {
				want, _ := under.Pairs(b, x, 0)
				want = slices.Clone(want)
				one, _ := under.Pairs(b, x, 0)
				two, _ := under.Pairs(b, x, 0)
				sketch.SpoilList(one, [2]int{-7, -7})
				if !slices.Equal(two, want) {
					t.Errorf("P0.4: two results for nodes %d and 0 of %v share memory", x, plain)
				}
				if again, _ := under.Pairs(b, x, 0); !slices.Equal(again, want) {
					t.Errorf("P0.5: the result for nodes %d and 0 of %v is another one when it was asked before", x, plain)
				}
			}
			if !sketch.Same(b, plain) {
				t.Errorf("P0.4: a result shares its memory with the book %v", plain)
			}
		}
	}
}

// What was asked before, of another book or of the same book before it was changed, does not matter.
func TestNothingIsKept(t *testing.T) {
	b := sketch.Book("", "b!x>2,y>2 b!x>2 .")
	l, is := under.Pairs(b, 0, 1)
	if !is || !under.Holds(b, l) {
		t.Fatal("P11.2: Pairs and Holds before the change:", l, is)
	}
	b.Nodes[1].Arms[0].Label = "z"
	checkNotUnder(t, b, 0, 1)
	checkHolds(t, b, l, false)
	if !slices.Equal(l, pairsOf("0/1 2/2")) {
		t.Error("P0.4: the pairs change with the book:", l)
	}
	b.Nodes[0].Arms[1].Label = "z"
	checkUnder(t, b, 0, 1)
	checkHolds(t, b, l, true)
	b.Nodes[2].Kind = 3
	checkInvalid(t, b)
	checkHolds(t, b, l, false)
}

func TestNilAndEmptyListsAreTheSame(t *testing.T) {
	for _, b := range []api.Book{{}, {Nodes: []api.Node{}, Names: []string{}, Roots: []int{}}, {Nodes: []api.Node{{Arms: []api.Edge{}}, {}}, Names: []string{}}} {
		check(t, b)
		checkHolds(t, b, nil, true)
		checkHolds(t, b, [][2]int{}, true)
	}
}
