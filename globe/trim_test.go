package globe_test

import (
	"slices"
	"strconv"
	"strings"
	"testing"

	"repartee/api"
	"repartee/globe"
	"repartee/sketch"
)

// trims are protocols with what Reach and Trim say of them.
var trims = []struct{ p, reach, trim string }{
	// The example of the chapter.
	{"a-b!x>1 b-c!y>0", "0 1", "a-b!x>1 b-c!y>0"},
	// A protocol whose first point is the end, with points behind it or without.
	{".", "0", "."},
	{". .", "0", "."},
	{". a-b!x>0 b-a!x>2", "0", "."},
	// Points that are not reached: behind the first, in the middle, at the end, and all of these.
	{"a-b!x>2 . c-b!x>0", "0 2", "a-b!x>1 c-b!x>0"},
	{"a-b!x>1 a-c!x>4 . c-a!x>3 b-c!x>5 .", "0 1 4 5", "a-b!x>1 a-c!x>2 b-c!x>3 ."},
	{"a-b!x>1 b-a!x>2 . c-a!x>1 c-b!x>3", "0 1 2", "a-b!x>1 b-a!x>2 ."},
	{"a-b!x>3 c-a!x>3 c-b!x>0 b-c!x>5 c-a!x>5 c-a!y>0 b-a!x>0 .", "0 3 5", "a-b!x>1 b-c!x>2 c-a!y>0"},
	// Points that are not reached lead to each other, and to those that are.
	{"a-b!x>0 a-c!x>2 c-a!x>1 b-c!x>0,y>1", "0", "a-b!x>0"},
	// Cycles: of a point with itself, of two and of three, the last one with a way in.
	{"a-b!x>0", "0", "a-b!x>0"},
	{"a-b!y>0,x>0", "0", "a-b!x>0,y>0"},
	{"a-b!x>1 a-b!x>1", "0 1", "a-b!x>1 a-b!x>1"},
	{"a-b!x>1 c-a!x>0", "0 1", "a-b!x>1 c-a!x>0"},
	{"a-b!x>3 c-a!x>2 b-c!x>3 c-b!x>1", "0 3 1 2", "a-b!x>1 c-b!x>2 c-a!x>3 b-c!x>1"},
	// Point by point, and not each way to its end first.
	{"a-b!x>1,y>2 b-c!x>3 c-b!x>4 . .", "0 1 2 3 4", "a-b!x>1,y>2 b-c!x>3 c-b!x>4 . ."},
	{"a-b!x>1,y>3 b-c!x>2 c-a!x>4 c-b!x>5 . .", "0 1 3 2 5 4", "a-b!x>1,y>2 b-c!x>3 c-b!x>4 c-a!x>5 . ."},
	{"a-b!x>4,y>3 . . c-b!x>2 b-c!x>1", "0 4 3 1 2", "a-b!x>1,y>2 b-c!x>3 c-b!x>4 . ."},
	// A point has its place where it is first met.
	{"a-b!y>2,x>1 b-c!x>2 c-b!x>1", "0 1 2", "a-b!x>1,y>2 b-c!x>2 c-b!x>1"},
	{"a-b!y>1,x>2 b-c!x>3 c-b!x>3 .", "0 2 1 3", "a-b!x>1,y>2 c-b!x>3 b-c!x>3 ."},
	{"a-b!x>2,y>2,z>1 . b-c!y>1,x>0", "0 2 1", "a-b!x>1,y>1,z>2 b-c!x>0,y>2 ."},
	// Arms out of order; the labels are ordered bytewise, and Nexts do not count.
	{"a-b!z>1,y>2,x>3 . . .", "0 3 2 1", "a-b!x>1,y>2,z>3 . . ."},
	{"a-b!y>1,z>2,x>3 . . .", "0 3 1 2", "a-b!x>1,y>2,z>3 . . ."},
	{"a-b!x9>1,x10>2,x>3,y>4,xx>5,x0>6 . . . . . .", "0 3 6 2 1 5 4", "a-b!x>1,x0>2,x10>3,x9>4,xx>5,y>6 . . . . . ."},
	// What the arms carry goes along and does not count in the order.
	{"a-b!y:1>1,x:5rest>0,w:5p.r>2 . c-a!z:2>0,v:4>1", "0 2 1", "a-b!w:5p.r>1,x:5rest>0,y:1>2 c-a!v:4>2,z:2>0 ."},
	{"a-b!x:3>1,y:2>1,z:1>1 .", "0 1", "a-b!x:3>1,y:2>1,z:1>1 ."},
}

func TestReachAndTrim(t *testing.T) {
	for _, c := range trims {
		for _, roles := range []string{"a b c", "c b a", "b d a e c"} {
			p, trim := rolesOf(roles, c.p), rolesOf(roles, c.trim)
			p.Name, trim.Name = "some", "some"
			if got := globe.Reach(p); !slices.Equal(got, sketch.Numbers(c.reach)) {
				t.Errorf("P7.2: Reach of %s = %v, want %s", c.p, got, c.reach)
			}
			if got := globe.Trim(p); !sketch.SameProtocol(got, trim) {
				t.Errorf("P7.2: Trim of %s = %v, want %v", c.p, got, trim)
			}
			if got := globe.Trim(trim); !sketch.SameProtocol(got, trim) {
				t.Errorf("P7.2: Trim of the Trim %s = %v", c.trim, got)
			}
			checkAll(t, p, someWays, manyFroms(len(p.Points)))
		}
	}
}

// The longest chain, its points in every order that a step coprime to their number makes.
func TestTrimOfTheLongestChain(t *testing.T) {
	for _, step := range []int{1, 5, 7, 11, 13, 17, 23} {
		p := rolesOf("r0 r1 r2 r3 r4", "")
		p.Points = make([]api.Point, 24)
		var want []int
		for k := range 24 {
			want = append(want, k*step%24)
			p.Points[k*step%24] = api.Point{From: "r" + strconv.Itoa(k%5), To: "r" + strconv.Itoa((k+1)%5), Arms: []api.Arm{{Label: "x" + strconv.Itoa(k), Next: (k + 1) * step % 24}}}
		}
		if got := globe.Reach(p); !slices.Equal(got, want) {
			t.Fatalf("P7.2: Reach of a chain of 24 points = %v, want %v", got, want)
		}
		for k, x := range globe.Trim(p).Points {
			if x.From != "r"+strconv.Itoa(k%5) || x.To != "r"+strconv.Itoa((k+1)%5) || x.Arms[0].Label != "x"+strconv.Itoa(k) || x.Arms[0].Next != (k+1)%24 {
				t.Fatalf("P7.2: point %d of the Trim of a chain of 24 points is %v", k, x)
			}
		}
		checkAll(t, p, someWays, manyFroms(24))
	}
}

// A tree of points with as many arms as there may be, whose labels stand in the opposite order.
func TestTrimOfAWideProtocol(t *testing.T) {
	p := proto("")
	p.Points = make([]api.Point, 24)
	for i := range 4 {
		p.Points[i].From, p.Points[i].To = "a", "b"
		for j := range 6 {
			p.Points[i].Arms = append(p.Points[i].Arms, api.Arm{Label: string(rune('f' - j)), Next: min(6*i+j+1, 23)})
		}
	}
	want := sketch.Numbers("0 6 5 4 3 2 1 23 22 21 20 19 18 17 16 15 14 13 12 11 10 9 8 7")
	if got := globe.Reach(p); !slices.Equal(got, want) {
		t.Errorf("P7.2: Reach of a wide protocol = %v, want %v", got, want)
	}
	checkAll(t, p, [][]string{{"a"}, {"f", "f"}, {"d", "f"}, {"f", "a"}, {"g"}, {"e", "c", "d"}}, manyFroms(24))
}

func TestWalk(t *testing.T) {
	for _, c := range []struct {
		p, way string
		want   int
	}{
		// No labels.
		{".", "", 0},
		{"a-b!x>1 .", "", 0},
		{"a-b!x>0", "", 0},
		// The first arm, one in the middle and the last one.
		{"a-b!x>1 b-c!z>2,y>3,x>4 . . .", "x", 1},
		{"a-b!x>1 b-c!z>2,y>3,x>4 . . .", "x z", 2},
		{"a-b!x>1 b-c!z>2,y>3,x>4 . . .", "x y", 3},
		{"a-b!x>1 b-c!z>2,y>3,x>4 . . .", "x x", 4},
		// A label that is missing: at the beginning, on the way, at its end, and where another point has it.
		{"a-b!x>1 b-c!y>2 .", "y", -1},
		{"a-b!x>1 b-c!y>2 .", "y x", -1},
		{"a-b!x>1 b-c!y>2 .", "x x", -1},
		{"a-b!x>1 b-c!y>0", "x x y", -1},
		{"a-b!x>1 b-c!y>0", "x y z x y", -1},
		// A way that goes on past the end.
		{".", "x", -1},
		{". a-b!x>0", "x", -1},
		{"a-b!x>1 .", "x x", -1},
		{"a-b!x>1 . a-b!x>1", "x x", -1},
		{"a-b!x>2,y>0 b-a!x>1 .", "y y x x", -1},
		// Cycles.
		{"a-b!x>0", "x x x x x", 0},
		{"a-b!x>1 b-c!x>2 c-a!x>0", "x x", 2},
		{"a-b!x>1 b-c!x>2 c-a!x>0", "x x x x", 1},
		{"a-b!x>0,y>1 b-c!x>1,y>0", "x y x y y", 1},
		// The index is that of the point in the protocol, and not in its Trim.
		{"a-b!x>3 . . c-b!y>1 .", "x", 3},
		{"a-b!x>3 . . c-b!y>1 .", "x y", 1},
		{"a-b!y>1,x>2 . .", "y", 1},
		{"a-b!y>1,x>2 . .", "x", 2},
		// Labels that are a part of one, that have one as a part, or that are no names; nothing else is a label.
		{"a-b!xy>1 .", "x", -1},
		{"a-b!xy>1 .", "y", -1},
		{"a-b!xy>1 .", "xyz", -1},
		{"a-b!xy>1 .", "XY", -1},
		{"a-b!xy>1 .", "end", -1},
		{"a-b!x>1 .", "a", -1},
		{"a-b!x>1 .", "b", -1},
		{"a-b!x:5rest>1 .", "rest", -1},
		{"a-b!x:5p.r>1 .", "x", 1},
		{"a-b!x:3>1 .", "x", 1},
	} {
		way := strings.Fields(c.way)
		at, is := globe.Walk(proto(c.p), way)
		if is != (c.want >= 0) || at != max(c.want, 0) {
			t.Errorf("P7.2: Walk of %s along %q = %d, %v, want %d", c.p, c.way, at, is, c.want)
		}
		checkAll(t, proto(c.p), [][]string{way}, nil)
	}
	for _, label := range []string{"", " ", "x ", "x\x00", "\xff", "x.", strings.Repeat("x", 1000)} {
		if at, is := globe.Walk(proto("a-b!x>0"), []string{label}); at != 0 || is {
			t.Errorf("P7.2: Walk of a-b!x>0 along %q = %d, %v", label, at, is)
		}
	}
}

func TestWalkOfALongWay(t *testing.T) {
	p := proto("a-b!x>1 b-c!x>2 c-a!x>0,y>3 .")
	way := slices.Repeat([]string{"x"}, 100001)
	for _, c := range []struct {
		more []string
		at   int
		is   bool
	}{{nil, 2, true}, {[]string{"y"}, 3, true}, {[]string{"y", "x"}, 0, false}} {
		if at, is := globe.Walk(p, slices.Concat(way, c.more)); at != c.at || is != c.is {
			t.Errorf("P7.2: Walk of a long way and %q = %d, %v", c.more, at, is)
		}
	}
}

func TestNothingBeyondAListIsReadOrWritten(t *testing.T) {
	ways := [][]string{nil, {"x"}, {"x", "x"}, {"beyond"}, {"x", "beyond"}, {"y", "x"}}
	for _, c := range trims {
		p := proto(c.p)
		r := sketch.RoomyProtocol(p)
		before := sketch.BeyondProtocol(r)
		checkAll(t, r, ways, fewFroms(len(p.Points)))
		if !globe.Same(r, p) || !globe.Same(p, r) {
			t.Errorf("P0.4: Same reads beyond the lists of %s", c.p)
		}
		if globe.Lost(r, "beyond", 0) || len(globe.Near(r, "beyond", []int{0, len(p.Points)})) > 0 {
			t.Errorf("P0.4: a role beyond those of %s was read", c.p)
		}
		if !sketch.SameProtocol(sketch.BeyondProtocol(r), before) {
			t.Errorf("P0.4: memory beyond the lists of %s was written: %v", c.p, sketch.BeyondProtocol(r))
		}
	}
	// The points, the arms and the roles beyond are none.
	next, arms, roles := sketch.RoomyProtocol(proto("a-b!x>1 .")), sketch.RoomyProtocol(proto("a-b!x>0")), sketch.RoomyProtocol(proto("a-b!x>0"))
	next.Points = next.Points[:1]
	arms.Points[0].Arms = arms.Points[0].Arms[:0]
	roles.Roles = roles.Roles[:1]
	for _, p := range []api.Protocol{next, arms, roles, sketch.RoomyProtocol(proto("")), sketch.RoomyProtocol(rolesOf("", "."))} {
		check(t, p, false)
	}
	labels, from := []string{"x", "zz", "x"}, []int{1, 0, 7}
	if at, is := globe.Walk(proto("a-b!x>1 ."), labels[:1]); at != 1 || !is || !slices.Equal(labels, []string{"x", "zz", "x"}) {
		t.Errorf("P0.4: Walk reads or writes beyond its labels: %d, %v, %q", at, is, labels)
	}
	if near := globe.Near(proto("a-b!x>1 ."), "a", from[:1]); len(near) > 0 || !slices.Equal(from, []int{1, 0, 7}) {
		t.Errorf("P0.4: Near reads or writes beyond its indices: %v, %v", near, from)
	}
}

func TestResultsAreNewMemory(t *testing.T) {
	for _, c := range trims {
		p := proto(c.p)
		for _, arg := range []api.Protocol{p, sketch.RoomyProtocol(p), globe.Trim(p)} {
			before, from := sketch.CopyProtocol(arg), []int{0, 0}
			reach, near, trim := globe.Reach(arg), globe.Near(arg, "a", from), globe.Trim(arg)
			reach2, near2, trim2 := globe.Reach(arg), globe.Near(arg, "a", from), globe.Trim(arg)
			sketch.SpoilList(reach, -7)
			sketch.SpoilList(near, -7)
			sketch.SpoilProtocol(trim)
			if !sketch.SameProtocol(arg, before) || !slices.Equal(from, []int{0, 0}) {
				t.Fatalf("P0.4: a result shares its memory with the argument %s", c.p)
			}
			if !slices.Equal(reach2, simpleReach(before)) || !slices.Equal(near2, simpleNear(before, closure(before, "a"), "a", from)) || !sketch.SameProtocol(trim2, simpleTrim(before)) {
				t.Fatalf("P0.4: two results of %s share memory", c.p)
			}
		}
	}
	// All the points of from are near, in their order.
	p, from := proto("a-b!x>1 a-c!x>2 b-a!x>0"), []int{0, 1, 2}
	sketch.SpoilList(globe.Near(p, "a", from), -7)
	if !slices.Equal(from, []int{0, 1, 2}) {
		t.Error("P0.4: a result of Near shares its memory with the indices")
	}
}

// An arm that is added to one point, or changed in it, is in no other.
func TestPointsOfATrimShareNoMemory(t *testing.T) {
	for _, c := range trims {
		if !sketch.ApartProtocol(globe.Trim(proto(c.p))) {
			t.Errorf("P0.4: points of the Trim of %s share memory", c.p)
		}
	}
}

func TestNilAndEmptyListsAreTheSame(t *testing.T) {
	nils, empty := proto("a-b!x>2 . ."), proto("a-b!x>2 . .")
	empty.Points[1].Arms, empty.Points[2].Arms = []api.Arm{}, []api.Arm{}
	check(t, empty, true)
	if !globe.Same(nils, empty) || !globe.Same(empty, nils) {
		t.Error("P0.4: Same tells nil from an empty list")
	}
}
