package turns_test

import (
	"math/rand"
	"slices"
	"strings"
	"testing"

	"repartee/api"
	"repartee/sketch"
	"repartee/turns"
)

func TestWalk(t *testing.T) {
	for _, c := range []struct {
		l, way string
		want   int
	}{
		// No labels.
		{".", "", 0},
		{"b!a>1 .", "", 0},
		{"b!a>0", "", 0},
		// Send and Recv, the first arm, one in the middle and the last one.
		{"b!a>1 b?c>2,b>3,a>4 . . .", "a", 1},
		{"b!a>1 b?c>2,b>3,a>4 . . .", "a c", 2},
		{"b!a>1 b?c>2,b>3,a>4 . . .", "a b", 3},
		{"b!a>1 b?c>2,b>3,a>4 . . .", "a a", 4},
		// A label that is missing: at the beginning, on the way, at its end, and where another turn has it.
		{"b!a>1 b!b>2 .", "b", -1},
		{"b!a>1 b!b>2 .", "b a", -1},
		{"b!a>1 b!b>2 .", "a a", -1},
		{"b!a>1 b!b>0", "a a b", -1},
		{"b!a>1 b!b>0", "a b b", -1},
		{"b!a>1 b!b>0", "a b x a b", -1},
		// A way that goes on past an End.
		{".", "a", -1},
		{". b!a>0", "a", -1},
		{"b!a>1 .", "a a", -1},
		{"b!a>1 . b!a>1", "a a", -1},
		{"b!a>2,b>0 b!a>1 .", "b b a a", -1},
		{"b!a>2,b>0 b!a>1 .", "b b a a a", -1},
		// Cycles.
		{"b!a>0", "a a a a a", 0},
		{"b!a>1 b!a>2 b!a>0", "a a", 2},
		{"b!a>1 b!a>2 b!a>0", "a a a", 0},
		{"b!a>1 b!a>2 b!a>0", "a a a a", 1},
		{"b!a>0,x>1 b!a>1,x>0", "a x a x x", 1},
		// The index is that of the turn in the type, and not in its Trim.
		{"b!a>3 . . c?b>1 .", "a", 3},
		{"b!a>3 . . c?b>1 .", "a b", 1},
		{"b!b>1,a>2 . .", "b", 1},
		{"b!b>1,a>2 . .", "a", 2},
		// Labels that are a part of one, that have one as a part, or that are no names; nothing else in an arm is its label.
		{"b!ab>1 .", "a", -1},
		{"b!ab>1 .", "b", -1},
		{"b!ab>1 .", "abc", -1},
		{"b!ab>1 .", "AB", -1},
		{"b!ab>1 .", "end", -1},
		{"b!a:5rest>1 .", "rest", -1},
		{"b!a:5rest>1 .", "b", -1},
		{"b!a:5p.r>1 .", "a", 1},
		{"b!a:3>1 .", "a", 1},
	} {
		at, is := turns.Walk(typed(c.l), strings.Fields(c.way))
		if is != (c.want >= 0) || at != max(c.want, 0) {
			t.Errorf("P6.3: Walk of %s along %q = %d, %v, want %d", c.l, c.way, at, is, c.want)
		}
		checkAll(t, typed(c.l), [][]string{strings.Fields(c.way)})
	}
	for _, label := range []string{"", " ", "a ", "a\x00", "\xff", "a.", strings.Repeat("a", 1000)} {
		if at, is := turns.Walk(typed("b!a>0"), []string{label}); at != 0 || is {
			t.Errorf("P6.3: Walk of b!a>0 along %q = %d, %v", label, at, is)
		}
	}
}

func TestWalkOfALongWay(t *testing.T) {
	l := typed("b!a>1 b!a>2 b!a>0,x>3 .")
	way := slices.Repeat([]string{"a"}, 100001)
	if at, is := turns.Walk(l, way); at != 2 || !is {
		t.Errorf("P6.3: Walk of 100001 labels = %d, %v", at, is)
	}
	if at, is := turns.Walk(l, append(way, "x")); at != 3 || !is {
		t.Errorf("P6.3: Walk of 100002 labels = %d, %v", at, is)
	}
	if at, is := turns.Walk(l, append(way, "x", "a")); at != 0 || is {
		t.Errorf("P6.3: Walk of 100003 labels = %d, %v", at, is)
	}
}

// checkSame checks Same of a and b, and of b and a, and that they stay as they are.
func checkSame(t *testing.T, a, b api.Local, want bool) {
	t.Helper()
	a2, b2 := sketch.CopyLocal(a), sketch.CopyLocal(b)
	if turns.Same(a, b) != want || turns.Same(b, a) != want {
		t.Fatalf("P6.3: Same(%v, %v) = %v", a, b, !want)
	}
	if !sketch.SameLocal(a, a2) || !sketch.SameLocal(b, b2) {
		t.Fatalf("P0.4: Same changed %v to %v, or %v to %v", a2, a, b2, b)
	}
}

func TestSame(t *testing.T) {
	for _, c := range []struct {
		a, b string
		want bool
	}{
		// The order of the turns, of the arms, and turns that are not reached.
		{"b!a>1,b>2 c!a>0 .", "b!a>2,b>1 . c!a>0", true},
		{"b!a>1,b>2 c!a>0 .", "b!b>2,a>1 c!a>0 .", true},
		{"b!a>1,b>2 c!a>0 .", "b!b>1,a>2 . c!a>0", true},
		{"b!a>1 .", "b!a>1 . .", true},
		{"b!a>1 .", "b!a>2 x?a>0 .", true},
		{"b!a>0", "b!a>0 .", true},
		{".", ". b!a>0", true},
		{". c?a>1", ". b!a>0 .", true},
		// One field of a turn or an arm.
		{"b!a>0", "b?a>0", false},
		{"b!a>0", "c!a>0", false},
		{"b!a>0", "b!b>0", false},
		{"b!a>0", "b!a:1>0", false},
		{"b!a:1>0", "b!a:2>0", false},
		{"b!a:5p>0", "b!a:5q>0", false},
		{"b!a:5p>0", "b!a:5p.r>0", false},
		{"b!a>0 .", "b!a>1 .", false},
		{"b!a>0,b>1 .", "b!a>1,b>0 .", false},
		{"b!a>0,b>1 .", "b!a>0,b>0 .", false},
		{"b!a:1>0,b:2>0", "b!a:2>0,b:1>0", false},
		// One arm, or one turn, more.
		{"b!a>0", "b!a>0,b>0", false},
		{"b!a>0,b>0", "b!b>0", false},
		{".", "b!a>0", false},
		{"b!a>1 .", "b!a>1 b!a>2 .", false},
		{"b!a>1 .", ".", false},
		// The first turn is another.
		{"b!a>1 c!a>0", "c!a>1 b!a>0", false},
		{"b!a>1 .", ". b!a>0", false},
		// Equal ways do not make equal graphs.
		{"b!a>0", "b!a>1 b!a>0", false},
		{"b!a>0", "b!a>1 b!a>1", false},
		{"b!a>1,b>1 .", "b!a>1,b>2 . .", false},
		{"b!a>1,b>2 b!a>3 b!a>3 .", "b!a>1,b>2 b!a>3 b!a>4 . .", false},
	} {
		checkSame(t, typed(c.a), typed(c.b), c.want)
		checkSame(t, typed(c.a), typed(c.a), true)
		a, b := typed(c.a), typed(c.b)
		a.Name, b.Name = "one", "NOT A NAME"
		checkSame(t, a, b, c.want)
	}
}

func TestSameOfInvalidTypes(t *testing.T) {
	var l []api.Local
	for _, s := range []string{"", "b!A>0", "b!a>1", "b!a>0,a>0", ". B!a>0", "b!a:6>0"} {
		l = append(l, typed(s))
	}
	l = append(l, api.Local{Name: "none"}, single(0, "b"), single(1, "b"), single(3, ""), api.Local{Turns: make([]api.Turn, 41)})
	for _, a := range l {
		for _, b := range l {
			checkSame(t, a, b, false)
		}
		for _, s := range []string{".", "b!a>0", "b!a>1 .", ". b!a>0"} {
			checkSame(t, a, typed(s), false)
		}
		checkSame(t, a, a, false)
		checkAll(t, a, someWays)
	}
}

// smallTypes are all types of n turns that are End or have one or two arms with the labels a and b, in either order.
func smallTypes(n int) []api.Local {
	var choices []api.Turn
	choices = append(choices, api.Turn{})
	put := func(arms ...api.Arm) {
		choices = append(choices, api.Turn{Kind: api.Send, Peer: "b", Arms: arms})
	}
	for i := range n {
		put(api.Arm{Label: "a", Next: i})
		put(api.Arm{Label: "b", Next: i})
		for j := range n {
			put(api.Arm{Label: "a", Next: i}, api.Arm{Label: "b", Next: j})
			put(api.Arm{Label: "b", Next: i}, api.Arm{Label: "a", Next: j})
		}
	}
	all := []api.Local{{}}
	for range n {
		var longer []api.Local
		for _, l := range all {
			for _, x := range choices {
				longer = append(longer, api.Local{Turns: append(slices.Clone(l.Turns), x)})
			}
		}
		all = longer
	}
	return all
}

func TestAllSmallTypes(t *testing.T) {
	for n := 1; n <= 3; n++ {
		for _, l := range smallTypes(n) {
			if !checkAll(t, l, someWays) {
				t.Fatal("P6.1: not valid:", l)
			}
		}
	}
}

func TestSameOfAllSmallTypes(t *testing.T) {
	all := append(smallTypes(1), smallTypes(2)...)
	for _, a := range all {
		for _, b := range all {
			checkSame(t, a, b, simpleSame(a, b))
		}
	}
}

// randomType is a type of up to n turns that is valid.
func randomType(r *rand.Rand, n int) api.Local {
	l := api.Local{Name: "some", Turns: make([]api.Turn, 1+r.Intn(n))}
	for i := range l.Turns {
		if r.Intn(5) == 0 {
			continue
		}
		x := api.Turn{Kind: 1 + r.Intn(2), Peer: string("bcd"[r.Intn(3)])}
		for _, k := range r.Perm(6)[:1+r.Intn(1+r.Intn(6))] {
			x.Arms = append(x.Arms, api.Arm{Label: []string{"a", "b", "x", "y", "a2", "aa"}[k], Carries: randomCarries(r), Next: r.Intn(len(l.Turns))})
		}
		l.Turns[i] = x
	}
	return l
}

func randomCarries(r *rand.Rand) api.Carries {
	k := r.Intn(6)
	if k < 5 {
		return api.Carries{Kind: k}
	}
	return api.Carries{Kind: k, Name: []string{"rest", "p.r", "p.s"}[r.Intn(3)]}
}

// randomWays are ways that follow the arms of a valid type, some of them with one label too many.
func randomWays(r *rand.Rand, l api.Local) [][]string {
	ways := make([][]string, 10)
	for i := range ways {
		at := 0
		for range r.Intn(12) {
			arms := l.Turns[at].Arms
			if len(arms) == 0 {
				break
			}
			a := arms[r.Intn(len(arms))]
			ways[i] = append(ways[i], a.Label)
			at = a.Next
		}
		if r.Intn(3) == 0 {
			ways[i] = append(ways[i], "b")
		}
	}
	return ways
}

func TestRandomTypes(t *testing.T) {
	r := rand.New(rand.NewSource(6))
	for i := range 3000 {
		l := randomType(r, 1+i%api.MaxTurns)
		if !checkAll(t, l, randomWays(r, l)) {
			t.Fatal("P6.1: not valid:", l)
		}
	}
}

// shuffled is l with its turns behind the first in another order, perhaps with turns more that are not reached, and its arms in another order.
func shuffled(r *rand.Rand, l api.Local) api.Local {
	n := len(l.Turns) + r.Intn(api.MaxTurns+1-len(l.Turns))
	to := []int{0}
	for _, k := range r.Perm(n - 1) {
		to = append(to, k+1)
	}
	out := api.Local{Turns: make([]api.Turn, n)}
	for i := len(l.Turns); i < n; i++ {
		out.Turns[to[i]] = api.Turn{Kind: api.Send, Peer: "z", Arms: []api.Arm{{Label: "z", Next: r.Intn(n)}}}
	}
	for i, x := range l.Turns {
		arms := make([]api.Arm, len(x.Arms))
		for j, k := range r.Perm(len(x.Arms)) {
			arms[j] = x.Arms[k]
			arms[j].Next = to[arms[j].Next]
		}
		out.Turns[to[i]] = api.Turn{Kind: x.Kind, Peer: x.Peer, Arms: arms}
	}
	return out
}

func TestSameOfShuffledTypes(t *testing.T) {
	r := rand.New(rand.NewSource(7))
	for i := range 2000 {
		a := randomType(r, 1+i%api.MaxTurns)
		b := shuffled(r, a)
		checkSame(t, a, b, true)
		x, y := turns.Trim(a), turns.Trim(b)
		if y.Name = x.Name; !sketch.SameLocal(x, y) {
			t.Fatalf("P6.2: the Trims of %v and %v differ: %v and %v", a, b, x, y)
		}
		if !slices.Equal(turns.Peers(a), turns.Peers(b)) {
			t.Fatalf("P6.2: the Peers of %v and %v differ", a, b)
		}
	}
}

// The types differ in one field of one arm or one turn, which counts if the turn is reached.
func TestSameOfTypesThatDifferInOneField(t *testing.T) {
	r := rand.New(rand.NewSource(8))
	for i := range 2000 {
		a := randomType(r, 1+i%12)
		b := sketch.CopyLocal(a)
		at := r.Intn(len(b.Turns))
		x := &b.Turns[at]
		if len(x.Arms) == 0 {
			*x = api.Turn{Kind: api.Recv, Peer: "b", Arms: manyArms(1)}
			checkSame(t, a, b, !slices.Contains(simpleReach(a), at))
			continue
		}
		arm := &x.Arms[r.Intn(len(x.Arms))]
		switch r.Intn(5) {
		case 0:
			x.Kind = 3 - x.Kind
		case 1:
			x.Peer += "2"
		case 2:
			arm.Label += "z"
		case 3:
			arm.Carries = api.Carries{Kind: api.Chan, Name: "other"}
		case 4:
			arm.Next = (arm.Next + 1) % len(b.Turns)
		}
		checkSame(t, a, b, simpleSame(a, b))
		checkAll(t, b, someWays)
	}
}
