package globe_test

import (
	"math"
	"slices"
	"testing"

	"repartee/api"
	"repartee/globe"
	"repartee/sketch"
)

// line is a protocol whose points are reached one after the other; c takes part in its point 2 alone.
const line = "a-b!x>1 b-a!x>2 a-c!x>3 a-b!x>4 ."

// round is a cycle in which c takes no part, with a way out to a point in which it does; behind the end, points that are not reached.
const round = "a-b!x>1 b-a!x>0,y>2 b-c!x>3 . c-a!x>6 a-b!x>4 a-b!x>6,y>6"

func TestNear(t *testing.T) {
	for _, c := range []struct {
		p, role, from, want string
	}{
		// The example of the chapter.
		{"a-b!x>1 b-c!y>0", "c", "0", "1"},
		// From no point.
		{line, "a", "", ""},
		{line, "c", "", ""},
		// From one: in which the role takes part, as From or as To, and in which it does not.
		{line, "a", "0", "0"},
		{line, "b", "0", "0"},
		{line, "c", "0", "2"},
		{line, "c", "1", "2"},
		{line, "c", "2", "2"},
		{line, "c", "3", ""},
		{line, "a", "4", ""},
		{line, "b", "2", "3"},
		// From several, in any order, and from the same one twice.
		{line, "c", "0 1", "2"},
		{line, "a", "2 0", "0 2"},
		{line, "b", "2 1 0", "0 1 3"},
		{line, "b", "1 1", "1"},
		{line, "c", "1 1", "2"},
		{line, "c", "0 2 0 2", "2"},
		{line, "a", "3 2 1 0", "0 1 2 3"},
		{line, "b", "3 2", "3"},
		// From what is no index of a point.
		{line, "a", "-1", ""},
		{line, "a", "5", ""},
		{line, "a", "5 -1", ""},
		{line, "a", "-1 0 5", "0"},
		{line, "c", "5 0 -1", "2"},
		{line, "c", "6 1 -2", "2"},
		// A step leaves no point in which the role takes part.
		{"a-b!x>1 c-b!x>2 a-c!x>0", "c", "0", "1"},
		{"a-b!x>1 c-b!x>2 a-c!x>0", "c", "1", "1"},
		{"a-b!x>1 c-b!x>2 a-c!x>0", "c", "2 0", "1 2"},
		{"a-b!x>1 c-b!x>2 a-c!x>0", "c", "0 2", "1 2"},
		{"c-a!x>1 a-b!x>2 a-c!x>3 .", "c", "0", "0"},
		// All arms are taken, and not the first alone.
		{"a-b!x>1,y>2,z>3 a-c!x>4 c-b!x>4 a-b!x>2 .", "c", "0", "1 2"},
		{"a-b!z>3,y>2,x>1 a-c!x>4 a-b!x>4 b-c!x>4 .", "c", "0", "1 3"},
		{"a-b!x>3,y>1 b-c!x>0 . b-a!x>0", "c", "0", "1"},
		// In ascending order, whatever comes first.
		{"a-b!x>3,y>2,z>1 c-a!x>1 c-a!x>1 a-b!x>5,y>4 c-b!x>0 b-c!x>0", "c", "0", "1 2 4 5"},
		// Cycles: of a point with itself, and one in which the role takes no part.
		{"a-b!x>0", "a", "0", "0"},
		{"a-b!x>0", "c", "0", ""},
		{"a-b!x>0,y>1 a-c!x>1", "c", "0", "1"},
		{"a-b!x>0,y>1 a-c!x>1", "c", "0 1", "1"},
		{"a-b!x>0,y>1 a-c!x>1", "b", "1", ""},
		{round, "c", "0", "2"},
		{round, "c", "1", "2"},
		{round, "c", "3", ""},
		{round, "a", "0", "0"},
		{round, "a", "2", ""},
		// Points that are not reached.
		{round, "c", "5", "4"},
		{round, "c", "4", "4"},
		{round, "c", "6", ""},
		{round, "b", "4", "6"},
		{round, "c", "6 5 0", "2 4"},
		// A role of the protocol that takes part in none of its points; a role that it does not have.
		{"a-b!x>1 b-a!x>0", "c", "0 1", ""},
		{line, "d", "0", ""},
		{line, "d", "0 1 2 3 4", ""},
		{line, "", "0 4", ""},
		{line, "A", "0", ""},
		{line, "p", "0", ""},
		{line, "x", "0", ""},
		{".", "", "0", ""},
		{".", "a", "0", ""},
		// Invalid protocols.
		{"", "a", "0", ""},
		{"a-b!x>2 .", "a", "0", ""},
		{"a-b!x>1 a-a!x>1", "a", "0", ""},
		{"a-b!x>1 a-d!x>0", "a", "0", ""},
		{"a-b!x>1 a-d!x>0", "d", "1", ""},
	} {
		p, from := proto(c.p), sketch.Numbers(c.from)
		if got := globe.Near(p, c.role, from); !slices.Equal(got, sketch.Numbers(c.want)) {
			t.Errorf("P7.3: Near of %s in %s from %s = %v, want %s", c.role, c.p, c.from, got, c.want)
		}
		if !slices.Equal(from, sketch.Numbers(c.from)) || !sketch.SameProtocol(p, proto(c.p)) {
			t.Errorf("P0.4: Near changed %s, or %s", c.p, c.from)
		}
		checkAll(t, p, someWays, append(manyFroms(len(p.Points)), from))
	}
}

func TestLost(t *testing.T) {
	for _, c := range []struct{ p, role, lost string }{
		// A role is lost at the end, and where no way leads to a point in which it takes part.
		{".", "a", "0"},
		{". .", "c", "0 1"},
		{line, "a", "4"},
		{line, "b", "4"},
		{line, "c", "3 4"},
		{"a-b!x>1 .", "a", "1"},
		{"a-b!x>1 .", "c", "0 1"},
		{"a-b!x>0", "a", ""},
		{"a-b!x>0", "b", ""},
		{"a-b!x>0", "c", "0"},
		{"a-b!x>0,y>1 a-c!x>1", "b", "1"},
		{"a-b!x>0,y>1 a-c!x>1", "c", ""},
		// The last arm is the one that leads to it.
		{"a-b!x>1,y>1,z>2 . b-c!x>1", "c", "1"},
		{round, "a", "2 3"},
		{round, "b", "3"},
		{round, "c", "3 6"},
		// A role that the protocol does not have is never lost.
		{line, "d", ""},
		{line, "", ""},
		{line, "A", ""},
		{line, "p", ""},
		{".", "", ""},
		// Nor is a role of an invalid protocol.
		{"", "a", ""},
		{"a-b!x>3 . .", "a", ""},
		{"a-b!x>1 . a-a!x>1", "a", ""},
		{"a-b!x>1 . a-d!x>1", "c", ""},
		{"a-b!x>1 . a-d!x>1", "d", ""},
	} {
		p := proto(c.p)
		for at := -3; at < len(p.Points)+3; at++ {
			if got := globe.Lost(p, c.role, at); got != slices.Contains(sketch.Numbers(c.lost), at) {
				t.Errorf("P7.3: Lost of %s in %s at %d = %v", c.role, c.p, at, got)
			}
		}
		for _, at := range []int{math.MinInt, -1 << 32, 24, 1 << 32, 1<<32 + 3, math.MaxInt} {
			if globe.Lost(p, c.role, at) {
				t.Errorf("P7.3: Lost of %s in %s at %d", c.role, c.p, at)
			}
		}
		checkAll(t, p, someWays, manyFroms(len(p.Points)))
	}
}

func TestNearAndLostOfInvalidProtocols(t *testing.T) {
	good := proto(line)
	bad := []api.Protocol{{}, {Name: "p", Points: good.Points}, {Name: "p", Roles: good.Roles}, {Name: "P", Roles: good.Roles, Points: good.Points}, {Roles: good.Roles, Points: good.Points}, rolesOf("a b c a", line), rolesOf("a b c d e f", line), rolesOf("a b", line), rolesOf("a", "."), rolesOf("a b c end", line), proto(line + " a-b!x>6"), proto(line + " -b!x>0"), proto(line + " a-!x>0")}
	for _, p := range bad {
		for at := -1; at < 6; at++ {
			for _, role := range []string{"a", "b", "c", "d", "", "end"} {
				if near := globe.Near(p, role, []int{at}); len(near) > 0 || globe.Lost(p, role, at) {
					t.Errorf("P7.3: Near(%v, %q, %d) = %v, Lost is %v", p, role, at, near, globe.Lost(p, role, at))
				}
			}
		}
		check(t, p, false)
	}
}

// A list of indices may be longer than the protocol has points.
func TestNearFromALongList(t *testing.T) {
	p := proto(line)
	var from []int
	for i := range 300000 {
		from = append(from, i%9-2)
	}
	if got := globe.Near(p, "c", from); !slices.Equal(got, []int{2}) {
		t.Errorf("P7.3: Near from a long list = %v", got)
	}
	if got := globe.Near(p, "a", from); !slices.Equal(got, []int{0, 1, 2, 3}) {
		t.Errorf("P7.3: Near from a long list = %v", got)
	}
}

// The longest way to a point: over all others, whatever their order.
func TestNearAtTheEndOfTheLongestWay(t *testing.T) {
	for _, step := range []int{1, 5, 7, 11, 13, 17, 23} {
		p := proto("")
		p.Points = make([]api.Point, 24)
		for k := range 24 {
			p.Points[k*step%24] = api.Point{From: "a", To: "b", Arms: []api.Arm{{Label: "x"}, {Label: "y", Next: (k + 1) * step % 24}}}
		}
		last := 23 * step % 24
		p.Points[last].To = "c"
		for at := range 24 {
			if got := globe.Near(p, "c", []int{at}); !slices.Equal(got, []int{last}) || globe.Lost(p, "c", at) {
				t.Fatalf("P7.3: Near of c from %d with step %d = %v", at, step, got)
			}
		}
		p.Points[last].To = "b"
		for at := range 24 {
			if got := globe.Near(p, "c", []int{at}); len(got) > 0 || !globe.Lost(p, "c", at) {
				t.Fatalf("P7.3: Near of c from %d with step %d = %v, though it is nowhere", at, step, got)
			}
		}
	}
}
