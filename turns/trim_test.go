package turns_test

import (
	"slices"
	"strconv"
	"strings"
	"testing"

	"repartee/api"
	"repartee/sketch"
	"repartee/turns"
)

// trims are types with what Reach, Trim and Peers say of them.
var trims = []struct{ l, reach, trim, peers string }{
	// The example of the chapter.
	{"b?y>2,x>0 . .", "0 2", "b?x>0,y>1 .", "b"},
	// A type whose first turn is End, with turns behind it or without.
	{".", "0", ".", ""},
	{". .", "0", ".", ""},
	{". b!a>0 b?a>2", "0", ".", ""},
	// Turns that are not reached: behind the first, in the middle, at the end, and all of these.
	{"b!a>2 . c?a>0", "0 2", "b!a>1 c?a>0", "b c"},
	{"b!a>1 c!a>4 . x!a>3 d!a>5 .", "0 1 4 5", "b!a>1 c!a>2 d!a>3 .", "b c d"},
	{"b!a>1 c!a>2 . x!a>1 y?a>3", "0 1 2", "b!a>1 c!a>2 .", "b c"},
	{"b?a>3 v!a>3 w!a>0 c?a>5 x!a>5 d?a>0 y!a>0 .", "0 3 5", "b?a>1 c?a>2 d?a>0", "b c d"},
	// Turns that are not reached lead to each other, and to those that are.
	{"b!a>0 x!a>2 y?a>1 z?a>0,b>1", "0", "b!a>0", "b"},
	// Cycles: of a turn with itself, of two and of three, the last one with a way in.
	{"b!a>0", "0", "b!a>0", "b"},
	{"b!b>0,a>0", "0", "b!a>0,b>0", "b"},
	{"b!a>1 b!a>1", "0 1", "b!a>1 b!a>1", "b"},
	{"b!a>1 c?a>0", "0 1", "b!a>1 c?a>0", "b c"},
	{"b!a>3 c?a>2 d!a>3 c?a>1", "0 3 1 2", "b!a>1 c?a>2 c?a>3 d!a>1", "b c d"},
	// Turn by turn, and not each way to its end first.
	{"b!a>1,b>2 b!a>3 b!a>4 . .", "0 1 2 3 4", "b!a>1,b>2 b!a>3 b!a>4 . .", "b"},
	{"b!a>1,b>3 b!a>2 b!a>4 b!a>5 . .", "0 1 3 2 5 4", "b!a>1,b>2 b!a>3 b!a>4 b!a>5 . .", "b"},
	{"b!a>4,b>3 . . b!a>2 b!a>1", "0 4 3 1 2", "b!a>1,b>2 b!a>3 b!a>4 . .", "b"},
	// A turn has its place where it is first met.
	{"b!b>2,a>1 b!a>2 b!a>1", "0 1 2", "b!a>1,b>2 b!a>2 b!a>1", "b"},
	{"b!b>1,a>2 b!a>3 b!a>3 .", "0 2 1 3", "b!a>1,b>2 b!a>3 b!a>3 .", "b"},
	{"b!a>2,b>2,c>1 . b!b>1,a>0", "0 2 1", "b!a>1,b>1,c>2 b!a>0,b>2 .", "b"},
	// Arms out of order; the labels are ordered bytewise, and Nexts do not count.
	{"b?c>1,b>2,a>3 . . .", "0 3 2 1", "b?a>1,b>2,c>3 . . .", "b"},
	{"b?b>1,c>2,a>3 . . .", "0 3 1 2", "b?a>1,b>2,c>3 . . .", "b"},
	{"b?a>3,b>2,c>1 . . .", "0 3 2 1", "b?a>1,b>2,c>3 . . .", "b"},
	{"b?a9>1,a10>2,a>3,b>4,aa>5,a0>6 . . . . . .", "0 3 6 2 1 5 4", "b?a>1,a0>2,a10>3,a9>4,aa>5,b>6 . . . . . .", "b"},
	// What the arms carry goes along and does not count in the order; the names that it has are those of other types.
	{"b?y:1>1,x:5rest>0,w:5p.r>2 . c!z:2>0,a:4>1", "0 2 1", "b?w:5p.r>1,x:5rest>0,y:1>2 c!a:4>2,z:2>0 .", "b c"},
	{"b!a:3>1,b:2>1,c:1>1 .", "0 1", "b!a:3>1,b:2>1,c:1>1 .", "b"},
	// Peers: in ascending order, once each, of turns of both Kinds; neither labels nor what is carried are peers.
	{"z!q:5w.v>1 y?x:5w>2 x!a>3 y!a>4 z?a>5 .", "0 1 2 3 4 5", "z!q:5w.v>1 y?x:5w>2 x!a>3 y!a>4 z?a>5 .", "x y z"},
	{"b9!a>1 b10?a>2 b!a>3 ba!a>4 .", "0 1 2 3 4", "b9!a>1 b10?a>2 b!a>3 ba!a>4 .", "b b10 b9 ba"},
}

func TestReachTrimAndPeers(t *testing.T) {
	for _, c := range trims {
		l := typed(c.l)
		l.Name = "some"
		trim := typed(c.trim)
		trim.Name = "some"
		if got := turns.Reach(l); !slices.Equal(got, sketch.Numbers(c.reach)) {
			t.Errorf("P6.2: Reach of %s = %v, want %s", c.l, got, c.reach)
		}
		if got := turns.Trim(l); !sketch.SameLocal(got, trim) {
			t.Errorf("P6.2: Trim of %s = %v, want %v", c.l, got, trim)
		}
		if got := turns.Peers(l); !slices.Equal(got, strings.Fields(c.peers)) {
			t.Errorf("P6.2: Peers of %s = %v, want %s", c.l, got, c.peers)
		}
		if got := turns.Trim(trim); !sketch.SameLocal(got, trim) {
			t.Errorf("P6.4: Trim of the Trim %s = %v", c.trim, got)
		}
		checkAll(t, l, someWays)
	}
}

// The longest chain, its turns in every order that a step coprime to their number makes.
func TestTrimOfTheLongestChain(t *testing.T) {
	for _, step := range []int{1, 3, 7, 9, 11, 13, 39} {
		l := api.Local{Turns: make([]api.Turn, 40)}
		var want []int
		for k := range 40 {
			want = append(want, k*step%40)
			l.Turns[k*step%40] = api.Turn{Kind: api.Send, Peer: "p" + strconv.Itoa(k), Arms: []api.Arm{{Label: "a", Next: (k + 1) * step % 40}}}
		}
		if got := turns.Reach(l); !slices.Equal(got, want) {
			t.Fatalf("P6.2: Reach of a chain of 40 turns = %v, want %v", got, want)
		}
		for k, x := range turns.Trim(l).Turns {
			if x.Peer != "p"+strconv.Itoa(k) || x.Arms[0].Next != (k+1)%40 {
				t.Fatalf("P6.2: turn %d of the Trim of a chain of 40 turns is %v", k, x)
			}
		}
		if n := len(turns.Peers(l)); n != 40 {
			t.Fatalf("P6.2: a chain of 40 turns with 40 peers has %d Peers", n)
		}
		way := slices.Repeat([]string{"a"}, 1000)
		checkAll(t, l, [][]string{way[:1], way[:39], way[:40], way[:41], way})
	}
}

// A tree of turns with MaxArms arms each, whose labels stand in the opposite order.
func TestTrimOfAWideType(t *testing.T) {
	l := api.Local{Turns: make([]api.Turn, 37)}
	for i := range 6 {
		for j := range 6 {
			arm := api.Arm{Label: string(rune('f' - j)), Next: 6*i + j + 1}
			l.Turns[i].Kind, l.Turns[i].Peer = api.Recv, "b"
			l.Turns[i].Arms = append(l.Turns[i].Arms, arm)
		}
	}
	want := sketch.Numbers("0 6 5 4 3 2 1 36 35 34 33 32 31 30 29 28 27 26 25 24 23 22 21 20 19 18 17 16 15 14 13 12 11 10 9 8 7")
	if got := turns.Reach(l); !slices.Equal(got, want) {
		t.Errorf("P6.2: Reach of a wide type = %v, want %v", got, want)
	}
	checkAll(t, l, [][]string{{"a"}, {"f", "f"}, {"a", "f"}, {"f", "a"}, {"g"}, {"b", "c", "d"}})
}

func TestNothingBeyondAListIsReadOrWritten(t *testing.T) {
	ways := [][]string{nil, {"a"}, {"a", "a"}, {"beyond"}, {"a", "beyond"}, {"x", "a"}}
	for _, c := range trims {
		l := typed(c.l)
		r := sketch.RoomyLocal(l)
		before := sketch.BeyondLocal(r)
		compare(t, r, ways, ask(r, ways), expected(l, ways))
		if !turns.Same(r, l) || !turns.Same(l, r) {
			t.Errorf("P0.4: Same reads beyond the lists of %s", c.l)
		}
		if !sketch.SameLocal(sketch.BeyondLocal(r), before) {
			t.Errorf("P0.4: memory beyond the lists of %s was written: %v", c.l, sketch.BeyondLocal(r))
		}
	}
	// The turns and the arms beyond are none, so a Next to them is wrong and there are no arms.
	next := sketch.RoomyLocal(typed("b!a>1 ."))
	next.Turns = next.Turns[:1]
	arms := sketch.RoomyLocal(typed("b!a>0"))
	arms.Turns[0].Arms = arms.Turns[0].Arms[:0]
	if turns.May(next) || turns.May(arms) {
		t.Error("P0.4: May reads beyond a list")
	}
	none := sketch.RoomyLocal(api.Local{})
	if turns.May(none) || len(turns.Trim(none).Turns) > 0 {
		t.Error("P0.4: turns beyond an empty list were read")
	}
	labels := []string{"a", "zz", "a"}
	if at, is := turns.Walk(typed("b!a>1 ."), labels[:1]); at != 1 || !is || !slices.Equal(labels, []string{"a", "zz", "a"}) {
		t.Errorf("P0.4: Walk reads or writes beyond its labels: %d, %v, %q", at, is, labels)
	}
}

func TestResultsAreNewMemory(t *testing.T) {
	for _, c := range trims {
		l := typed(c.l)
		for _, arg := range []api.Local{l, sketch.RoomyLocal(l), turns.Trim(l)} {
			before := sketch.CopyLocal(arg)
			reach, peers, trim, other := turns.Reach(arg), turns.Peers(arg), turns.Trim(arg), turns.Trim(arg)
			sketch.SpoilList(reach, -7)
			sketch.SpoilList(peers, "spoiled")
			sketch.SpoilLocal(trim)
			if !sketch.SameLocal(arg, before) {
				t.Fatalf("P0.4: a result shares its memory with the argument %s", c.l)
			}
			if !sketch.SameLocal(other, simpleTrim(before)) {
				t.Fatalf("P0.4: two Trims of %s share memory", c.l)
			}
		}
	}
}

// An arm that is added to one turn, or changed in it, is in no other.
func TestTurnsOfATrimShareNoMemory(t *testing.T) {
	for _, c := range trims {
		if !sketch.ApartLocal(turns.Trim(typed(c.l))) {
			t.Errorf("P0.4: turns of the Trim of %s share memory", c.l)
		}
	}
}

func TestNilAndEmptyListsAreTheSame(t *testing.T) {
	nils, empty := typed("b!a>2 . ."), typed("b!a>2 . .")
	empty.Turns[1].Arms, empty.Turns[2].Arms = []api.Arm{}, []api.Arm{}
	ways := [][]string{nil, {}, {"a"}, {"a", "a"}}
	compare(t, empty, ways, ask(empty, ways), expected(nils, ways))
	if !turns.Same(nils, empty) || !turns.Same(empty, nils) {
		t.Error("P0.4: Same tells nil from an empty list")
	}
}
