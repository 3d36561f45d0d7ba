package under_test

import (
	"math"
	"slices"
	"testing"

	"repartee/sketch"
	"repartee/under"
)

var held = []struct {
	what, nodes, pairs string
	want               bool
}{
	{"the empty set", "b!x>0 .", "", true},
	{"the empty set, of the empty book", "", "", true},
	{"one End", ".", "0/0", true},
	{"two Ends", ". .", "0/1", true},
	{"a node under itself", "b!x>0", "0/0", true},
	{"the document's example, a Send", "b!x>2,y>2 b!x>2 .", "0/1 2/2", true},
	{"the document's example, a Recv", "b?x>2 b?x>2,y>2 .", "0/1 2/2", true},
	{"a Send the other way round", "b!x>2,y>2 b!x>2 .", "1/0 2/2", false},
	{"a Recv the other way round", "b?x>2 b?x>2,y>2 .", "1/0 2/2", false},
	{"an End and a Send", ". b!x>0", "0/1", false},
	{"other Peers", "b!x>2 c!x>2 .", "0/1 2/2", false},
	{"Kinds that differ", "b!x:1>2 b!x:2>2 .", "0/1 2/2", false},

	{"one obligation lacks, the only one", "b!x>2 b!x>3 . .", "0/1", false},
	{"one obligation lacks, the only one, whose mirrored pair is there", "b!x>2 b!x>3 . .", "0/1 3/2", false},
	{"no obligation lacks", "b!w>2,x:5.3>4 b!w>5,x:5.6>7 . . . . . .", "0/1 2/5 6/3 4/7", true},
	{"the first obligation lacks", "b!w>2,x:5.3>4 b!w>5,x:5.6>7 . . . . . .", "0/1 6/3 4/7", false},
	{"the obligation of a Chan lacks", "b!w>2,x:5.3>4 b!w>5,x:5.6>7 . . . . . .", "0/1 2/5 4/7", false},
	{"the last obligation lacks", "b!w>2,x:5.3>4 b!w>5,x:5.6>7 . . . . . .", "0/1 2/5 6/3", false},
	{"the pair of a sent Chan is not turned", "b!w>2,x:5.3>4 b!w>5,x:5.6>7 . . . . . .", "0/1 2/5 3/6 4/7", false},
	{"the pair of a received Chan is turned", "b?w>2,x:5.3>4 b?w>5,x:5.6>7 . . . . . .", "0/1 2/5 6/3 4/7", false},
	{"the pair of a received Chan", "b?w>2,x:5.3>4 b?w>5,x:5.6>7 . . . . . .", "0/1 2/5 3/6 4/7", true},
	{"an obligation of an obligation lacks", "b!x>2 b!x>3 c!x>4 c!x>5 . .", "0/1 2/3", false},
	{"the first pair alone lacks", "b!x>2 b!x>3 c!x>4 c!x>5 . .", "2/3 4/5", true},
	{"the obligation of the second pair alone lacks", "b!x>2 b!x>3 c!x>4 c!x>5 . .", "0/1 2/3 5/4", false},
	{"a pair of a cycle lacks", "b!x>1 b!x>2 b!x>0", "0/1 1/2", false},
	{"a cycle", "b!x>1 b!x>2 b!x>0", "0/1 1/2 2/0", true},
	{"two cycles", "b!x>1 b!x>2 b!x>0", "0/1 1/2 2/0 0/0 1/1 2/2", true},
	{"a label that is not common asks for nothing", "b!x>2,y>3 b!x>2 . c!x>3", "0/1 2/2", true},
	{"a label that is not common asks for nothing, received", "b?x>2 b?w:5.3>3,x>2 . c!x>3", "0/1 2/2", true},

	{"one pair too many that is right", "b!x>2 b!x>3 . .", "0/1 2/3 3/2", true},
	{"one pair too many that is right, and what it asks for", "b!x>2 b!x>3 . .", "0/1 2/3 1/0 3/2", true},
	{"one pair too many that is right, but lacks what it asks for", "b!x>2 b!x>3 . .", "0/1 2/3 1/0", false},
	{"one pair too many that is not right", "b!x>2 b!x>3 . .", "0/1 2/3 0/2", false},
	{"one pair too many that is not right, the first", "b!x>2 b!x>3 . .", "0/2 0/1 2/3", false},
	{"one pair too many that is not right, and has what it would ask for", "b!x>2,y>2 b!x>3 . .", "0/1 2/3 1/0 3/2", false},
	{"one pair too many that is right at once alone", "b!x>2 b!x>3 c!x>4 d!x>4 .", "0/1", false},
	{"one pair too many that is right at once alone, and what it asks for", "b!x>2 b!x>3 c!x>4 d!x>4 .", "0/1 2/3 4/4", false},

	{"a pair that comes twice", "b!x>2 b!x>3 . .", "0/1 0/1 2/3", true},
	{"pairs that come twice, one after the other", "b!x>2 b!x>3 . .", "0/1 2/3 0/1 2/3", true},
	{"a pair that is not right and comes twice", "b!x>2 c!x>2 .", "2/2 0/1 0/1", false},
	{"a pair that comes twice in the place of another", "b!x>2 b!x>3 . .", "0/1 0/1", false},
	{"pairs in another order", "b!w>2,x:5.3>4 b!w>5,x:5.6>7 . . . . . .", "4/7 6/3 0/1 2/5", true},
	{"pairs in another order, without one", "b!w>2,x:5.3>4 b!w>5,x:5.6>7 . . . . . .", "4/7 6/3 0/1", false},

	{"a number just above the nodes, on the left", ". .", "0/1 2/0", false},
	{"a number just above the nodes, on the right", ". .", "0/1 0/2", false},
	{"numbers just above the nodes, on both sides", ". .", "2/2 0/1", false},
	{"a number just below the nodes, on the left", ". .", "-1/0 0/1", false},
	{"a number just below the nodes, on the right", ". .", "0/1 0/-1 1/0", false},
	{"numbers just below the nodes, on both sides", ". .", "-1/-1", false},
	{"a number of the empty book", "", "0/0", false},
}

func TestHoldsByHand(t *testing.T) {
	for _, c := range held {
		b, l := sketch.Book("", c.nodes), pairsOf(c.pairs)
		for range 2 {
			if under.Holds(b, l) != c.want {
				t.Errorf("P11.1: %s: Holds of %s and %s = %v", c.what, c.nodes, c.pairs, !c.want)
			}
		}
		if simpleHolds(b, l) != c.want {
			t.Errorf("%s: the second implementation of Holds disagrees", c.what)
		}
		slices.Reverse(l)
		checkHolds(t, b, l, c.want)
		checkHolds(t, b, slices.Concat(l, l), c.want)
	}
}

func TestHoldsOfNumbersThatAreNoNodes(t *testing.T) {
	b := sketch.Book("", "b!x>2,y>2 b!x>2 .")
	l := pairsOf("0/1 2/2")
	for _, odd := range []int{-1, 3, 4, 400, 1 << 32, 1<<32 + 2, -1 << 32, math.MinInt, math.MaxInt} {
		for _, pair := range [][2]int{{odd, 0}, {2, odd}, {odd, odd}} {
			for i := range 3 {
				checkHolds(t, b, slices.Insert(slices.Clone(l), i, pair), false)
			}
			checkHolds(t, b, [][2]int{pair}, false)
		}
	}
}

// What Pairs returns holds; without one of its pairs it holds only if that was the first and nothing asked for it again.
func TestHoldsOfPairs(t *testing.T) {
	for _, c := range pairsUnder {
		b, l := sketch.Book("", c.nodes), pairsOf(c.want)
		checkHolds(t, b, l, true)
		for i := range l {
			less := slices.Delete(slices.Clone(l), i, i+1)
			want := i == 0 && !slices.ContainsFunc(less, func(p [2]int) bool { return slices.Contains(simpleAsked(b.Nodes[p[0]], b.Nodes[p[1]]), l[0]) })
			checkHolds(t, b, less, want)
		}
		set := simpleUnder(b)
		for x := range b.Nodes {
			for y := range b.Nodes {
				if !set[[2]int{x, y}] {
					checkHolds(t, b, append(slices.Clone(l), [2]int{x, y}), false)
				} else {
					checkHolds(t, b, slices.Concat(l, simplePairs(b, x, y)), true)
				}
			}
		}
	}
}

// The greatest set holds, and so does no set with a pair that is not in it.
func TestHoldsOfTheGreatestSet(t *testing.T) {
	for _, c := range isUnder {
		b := sketch.Book("", c.nodes)
		set := simpleUnder(b)
		var greatest, others [][2]int
		for x := range b.Nodes {
			for y := range b.Nodes {
				if set[[2]int{x, y}] {
					greatest = append(greatest, [2]int{x, y})
				} else {
					others = append(others, [2]int{x, y})
				}
			}
		}
		checkHolds(t, b, greatest, true)
		for _, pair := range others {
			checkHolds(t, b, append(slices.Clone(greatest), pair), false)
		}
		checkHolds(t, b, slices.Concat(greatest, others), len(others) == 0)
	}
}
