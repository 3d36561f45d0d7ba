package project_test

import (
	"slices"
	"strconv"
	"strings"
	"testing"

	"repartee/api"
	"repartee/globe"
	"repartee/project"
	"repartee/sketch"
)

// is checks that the projection of p to the role has these turns, or that it is refused with this error.
func is(t *testing.T, p api.Protocol, role, want string, err api.Errno) {
	t.Helper()
	var l api.Local
	if err == api.OK {
		l = sketch.Local(p.Name+"."+role, want)
	}
	if got, e := project.Role(p, role); e != err || !sketch.SameLocal(got, l) {
		t.Errorf("P8.1: Role(%v, %q) = %v, %d, want %s, %d", p, role, got, e, want, err)
	}
	check(t, p)
}

// projections are protocols of the roles a, b and c with their projections to a role.
var projections = []struct{ p, role, want string }{
	// A role that takes part in point 0: as From and as To.
	{"a-b!x>1 .", "a", "b!x>1 ."},
	{"a-b!x>1 .", "b", "a?x>1 ."},
	{"a-b!x:1>1,y:5p.r>1 .", "a", "b!x:1>1,y:5p.r>1 ."},
	{"a-b!x:1>1,y:5p.r>1 .", "b", "a?x:1>1,y:5p.r>1 ."},
	{"c-a!x:2>0", "c", "a!x:2>0"},
	{"c-a!x:3>0", "a", "c?x:3>0"},
	// A role that takes part in no point, or in none that is reached: all points of the span are lost.
	{".", "a", "."},
	{". .", "c", "."},
	{"a-b!x>1 .", "c", "."},
	{"a-b!x>0", "c", "."},
	{"a-b!x>1,y>0 b-a!x>0,y>2 .", "c", "."},
	{"a-b!x>1 . b-c!x>1 c-a!x>0", "c", "."},
	{". c-a!x>0,y>0", "c", "."},
	{"a-b!x>1 . a-c!x>0 b-c!y>0", "c", "."},
	// The way to the first point in which it takes part.
	{"a-b!x>1 b-c!y>0", "c", "b?y>0"},
	{"a-b!x>1 b-a!x>2 c-b!y>0", "c", "b!y>0"},
	{"a-b!x>2,y>1 b-a!x>2 a-c!z>3 .", "c", "a?z>1 ."},
	// A ring of all roles.
	{"a-b!x>1 b-c!y>2 c-a!z>0", "a", "b!x>1 c?z>0"},
	{"a-b!x>1 b-c!y>2 c-a!z>0", "b", "a?x>1 c!y>0"},
	{"a-b!x>1 b-c!y>2 c-a!z>0", "c", "b?y>1 a!z>0"},
	// The arms by ascending labels, whose order is bytewise, and the turns in the order in which the arms lead to them.
	{"a-b!y>1,x>2 a-c!x>3 c-a!x>3 .", "a", "b!x>1,y>2 c?x>3 c!x>3 ."},
	{"a-b!z>1,y>2,x>3 a-b!p>4 a-b!q>4 a-b!r>4 .", "b", "a?x>1,y>2,z>3 a?r>4 a?q>4 a?p>4 ."},
	{"a-b!x9>0,x10>1,x>0,y>1,xx>0,x0>0 .", "a", "b!x>0,x0>0,x10>1,x9>0,xx>0,y>1 ."},
	{"a-b!z:3>1,y:2>1,x:1>1 .", "b", "a?x:1>1,y:2>1,z:3>1 ."},
	// Turn by turn, and not each way to its end first.
	{"a-b!x>1,y>2 a-b!x>3 a-b!y>4 a-b!z>5 a-b!w>5 .", "a", "b!x>1,y>2 b!x>3 b!y>4 b!z>5 b!w>5 ."},
	{"a-b!x>1,y>2 a-b!x>3,y>2 a-b!y>4 a-b!z>5 a-b!w>5 .", "b", "a?x>1,y>2 a?x>3,y>2 a?y>4 a?z>5 a?w>5 ."},
	// All ends are one turn.
	{"a-b!x>1,y>2,z>3 . . a-b!w>4 .", "a", "b!x>1,y>1,z>2 . b!w>1"},
	{"a-b!x>1,y>2 . c-a!x>3 .", "b", "a?x>1,y>1 ."},
	{"a-b!x>1 c-a!x>1", "b", "a?x>1 ."},
	// Several points of one turn: the labels of Recv are put together, what Send says is the same in each.
	{"a-b!l>1,r>2 b-c!x>3 b-c!y:3>3 .", "c", "b?x>1,y:3>1 ."},
	{"a-b!l>1,r>2 b-c!y>3 b-c!x>4 c-a!p>0 c-a!q>0", "c", "b?x>1,y>2 a!q>0 a!p>0"},
	{"a-b!l>1,r>2 b-c!y>3,x>4 b-c!z>4,y>3 c-a!p>0 c-a!q>0", "c", "b?x>1,y>2,z>1 a!q>0 a!p>0"},
	{"a-b!l>1,r>2 c-b!x>0,y>3 c-b!x>0,y>3 c-a!z>0", "c", "b!x>0,y>1 a!z>0"},
	{"a-b!l>1,r>2 c-b!x:1>0,y:5p>3 c-b!y:5p>3,x:1>0 c-a!z>0", "c", "b!x:1>0,y:5p>1 a!z>0"},
	{"a-b!l>1,r>2,m>3 c-b!z>0,x>0,y>0 c-b!y>0,x>0,z>0 c-b!x>0,z>0,y>0", "c", "b!x>0,y>0,z>0"},
	// The Nexts of one label in several points: one near set of all of them.
	{"a-b!l>1,r>2 c-b!x>3 c-b!x>4 b-c!l>0 b-c!r>0", "c", "b!x>1 b?l>0,r>0"},
	{"a-b!l>1,r>2 b-c!x>3 b-c!x>4 b-c!l>0 b-c!r>0", "c", "b?x>1 b?l>0,r>0"},
	{"a-b!l>1,r>2 b-c!x>3 b-c!x>4 a-b!x>5 a-b!x>6 b-c!l>0 b-c!r>0", "c", "b?x>1 b?l>0,r>0"},
	{"a-b!l>1,r>2 b-c!x>3,y>3 b-c!x>4,z>4 b-c!l>0 b-c!r>0", "c", "b?x>1,y>2,z>3 b?l>0,r>0 b?l>0 b?r>0"},
	{"a-b!l>1,r>2 b-c!x>3 b-c!x>4 . .", "c", "b?x>1 ."},
	{"a-b!l>1,r>2 b-c!x>3 b-c!x>4 a-b!x>3 .", "c", "b?x>1 ."},
	// A near set that comes up again by another way is the same turn: from another point, from more points, and from its own turn.
	{"a-b!x>1,y>2 b-a!x>3 b-a!y>3 c-a!z>0", "a", "b!x>1,y>2 b?x>3 b?y>3 c?z>0"},
	{"a-c!x>1,y>2 a-b!x>3 a-b!x>3 b-c!z>0", "c", "a?x>1,y>1 b?z>0"},
	{"a-c!x>1,y>2,z>3 a-b!x>3 a-b!x>3 b-c!z>0", "c", "a?x>1,y>1,z>1 b?z>0"},
	{"a-c!x>1,y>4 a-b!l>2,r>3 b-c!x>0 b-c!y>0 a-b!l>3,m>5,r>2 b-a!x>1", "c", "a?x>1,y>1 b?x>0,y>0"},
	{"a-c!x>1,y>2,z>3 a-b!l>2,r>3 b-c!x>1 b-c!y>1", "c", "a?x>1,y>2,z>3 b?x>1,y>1 b?x>1 b?y>1"},
	// Near sets whose points are written with the same digits.
	{"a-c!x>3,y>4 b-c!p>0 b-c!q>0 a-b!l>1,r>2 a-b!l>5 a-b!l>12 . . . . . . b-c!s>0", "c", "a?x>1,y>2 b?p>0,q>0 b?s>0"},
	{"a-c!x>11,y>3 b-c!p>0 b-c!q>0 a-b!l>1,r>11 . . . . . . . b-c!s>0", "c", "a?x>1,y>2 b?s>0 b?p>0,s>0"},
	// Cycles of points in which the role takes no part.
	{"a-b!x>0,y>1 a-c!z>0", "c", "a?z>0"},
	{"a-b!x>1 b-a!x>0,y>2 b-c!z>1", "c", "b?z>0"},
	{"c-b!x>1 a-b!x>2 b-a!x>1,y>0", "c", "b!x>0"},
	{"b-c!s>1 a-b!x>1,y>2,z>0 b-c!t>1", "c", "b?s>1 b?s>1,t>1"},
	// Cycles of points in which it takes part.
	{"c-b!x>1 c-b!x>0", "c", "b!x>1 b!x>0"},
	{"c-b!x>1,y>0 c-b!x>1", "c", "b!x>1,y>0 b!x>1"},
	{"a-b!x>1 b-c!x>1,y>0", "c", "b?x>0,y>0"},
	{"a-b!x>2,y>1 b-c!x>1,y>0 b-c!y>1,z>2", "c", "b?x>1,y>0,z>2 b?x>1,y>0 b?y>1,z>2"},
	// The end behind a point in which the role takes part.
	{"a-b!x>2,y>1 b-c!z>3 b-c!w>3 .", "c", "b?w>1,z>1 ."},
	{"a-b!x>2,y>1 b-c!z>4 b-c!w>3 a-b!u>4 .", "c", "b?w>1,z>1 ."},
	{"a-b!x>2,y>1 b-c!z>0 b-c!w>3 .", "c", "b?w>1,z>0 ."},
}

func TestRole(t *testing.T) {
	for _, c := range projections {
		is(t, proto(c.p), c.role, c.want, api.OK)
	}
}

// refusals are protocols of the roles a, b and c with the error of a role.
var refusals = []struct {
	p, role string
	want    api.Errno
}{
	// The example of the chapter.
	{"a-b!x>1,y>2 . b-c!z>1", "c", api.ErrProjectEnd},
	// A span of point 0 with a point that is lost and one that is not: the lost one is the end, or leads to it, or to nowhere.
	{"a-b!x>1,y>2 b-a!x>3 b-c!z>3 .", "c", api.ErrProjectEnd},
	{"a-b!x>1,y>2 b-a!x>1 b-c!z>2", "c", api.ErrProjectEnd},
	{"a-b!x>2,y>1 c-a!z>3 a-b!z>3 .", "c", api.ErrProjectEnd},
	{"a-b!x>0,y>1,z>2 c-b!z>0 .", "c", api.ErrProjectEnd},
	{"a-b!x>1 b-a!x>2,y>3 a-c!x>0 .", "c", api.ErrProjectEnd},
	// A span behind an arm: of one point, and of two.
	{"b-c!x>1 a-b!x>2,y>0 .", "c", api.ErrProjectEnd},
	{"c-b!x>1 a-b!x>2,y>0 a-b!z>2", "c", api.ErrProjectEnd},
	{"a-b!l>1,r>2 b-c!x>3 b-c!x>0 .", "c", api.ErrProjectEnd},
	{"a-b!l>1,r>2 b-c!x>0 b-c!x>3 .", "c", api.ErrProjectEnd},
	{"a-b!l>1,r>2 c-b!x>1 c-b!x>3 .", "c", api.ErrProjectEnd},
	{"a-b!x>1,y>2 c-a!x>3 c-a!x>1 .", "c", api.ErrProjectEnd},
	// The last of several arms.
	{"b-c!x>0,y>0,z>1 a-b!x>2,y>0 .", "c", api.ErrProjectEnd},
	{"b-c!z>0,y>0,a>1 a-b!x>2,y>0 .", "c", api.ErrProjectEnd},
	// There is a turn with this near set, from a span in which no point is lost; or there is the end.
	{"b-c!x>0,y>1 a-b!l>0,r>2 .", "c", api.ErrProjectEnd},
	{"b-c!x>1,y>2 b-c!z>0 a-b!l>1,r>3 .", "c", api.ErrProjectEnd},
	{"b-c!x>2,y>1 a-b!l>0,r>2 .", "c", api.ErrProjectEnd},
	// The role is the From of one point of a turn and the To of another one, with one other role or with two.
	{"a-b!x>1,y>2 b-c!z>0 c-b!z>0", "c", api.ErrProjectMix},
	{"a-b!x>1,y>2 c-b!z>0 b-c!z>0", "c", api.ErrProjectMix},
	{"a-b!x>1,y>2 a-c!z>0 c-b!z>0", "c", api.ErrProjectMix},
	{"a-b!x>1,y>2 c-a!z>0 b-c!z>0", "c", api.ErrProjectMix},
	// Two other roles, for Recv and for Send.
	{"a-b!x>1,y>2 b-c!z>0 a-c!z>0", "c", api.ErrProjectMix},
	{"a-b!x>1,y>2 a-c!z>0 b-c!z>0", "c", api.ErrProjectMix},
	{"a-b!x>1,y>2 c-b!z>0 c-a!z>0", "c", api.ErrProjectMix},
	{"a-b!x>1,y>2 c-a!z>0 c-b!z>0", "c", api.ErrProjectMix},
	{"a-b!x>1,y>2 b-c!y>0 a-c!z>0", "c", api.ErrProjectMix},
	// The third point is the one.
	{"a-b!x>1,y>2,z>3 b-c!z>0 b-c!z>0 c-b!z>0", "c", api.ErrProjectMix},
	{"a-b!x>1,y>2,z>3 b-c!z>0 b-c!z>0 a-c!z>0", "c", api.ErrProjectMix},
	{"a-b!x>1,y>2,z>3 c-b!z>0 c-a!z>0 c-b!z>0", "c", api.ErrProjectMix},
	// Behind another turn.
	{"c-b!x>1 a-b!x>2,y>3 c-b!x>0 b-c!x>0", "c", api.ErrProjectMix},
	{"a-b!l>1,r>2 b-c!x>3 b-c!x>4 b-c!z>0 a-c!z>0", "c", api.ErrProjectMix},
	// Two Send points with different labels: others, fewer, more, and as many.
	{"a-b!x>1,y>2 c-b!z>0 c-b!w>0", "c", api.ErrProjectSays},
	{"a-b!x>1,y>2 c-b!z>0 c-b!w>0,z>0", "c", api.ErrProjectSays},
	{"a-b!x>1,y>2 c-b!z>0,w>0 c-b!w>0", "c", api.ErrProjectSays},
	{"a-b!x>1,y>2 c-b!x>0,y>0 c-b!y>0,z>0", "c", api.ErrProjectSays},
	{"a-b!x>1,y>2 c-b!x>0,y>0 c-b!z>0,w>0", "c", api.ErrProjectSays},
	{"a-b!x>1,y>2 c-b!x>0 c-b!xx>0", "c", api.ErrProjectSays},
	{"a-b!x>1,y>2,z>3 c-b!x>0,y>0 c-b!y>0,x>0 c-b!y>0", "c", api.ErrProjectSays},
	{"a-b!x>1,y>2,z>3 c-b!x>0,y>0 c-b!y>0,z>0 c-b!y>0,x>0", "c", api.ErrProjectSays},
	{"a-b!x>1,y>2 c-b!a>0,b>0,c>0,d>0,e>0,f>0 c-b!a>0,b>0,c>0,d>0,e>0,g>0", "c", api.ErrProjectSays},
	// The same label carries different things: the Kind or the Name, for Send and for Recv.
	{"a-b!x>1,y>2 c-b!z>0 c-b!z:1>0", "c", api.ErrProjectCarries},
	{"a-b!x>1,y>2 c-b!z:2>0 c-b!z:1>0", "c", api.ErrProjectCarries},
	{"a-b!x>1,y>2 c-b!z:5p>0 c-b!z:5q>0", "c", api.ErrProjectCarries},
	{"a-b!x>1,y>2 c-b!z:5p.r>0 c-b!z:5p.s>0", "c", api.ErrProjectCarries},
	{"a-b!x>1,y>2 c-b!z:5p>0 c-b!z:5p.p>0", "c", api.ErrProjectCarries},
	{"a-b!x>1,y>2 b-c!z>0 b-c!z:1>0", "c", api.ErrProjectCarries},
	{"a-b!x>1,y>2 b-c!z:3>0 b-c!z:4>0", "c", api.ErrProjectCarries},
	{"a-b!x>1,y>2 b-c!z:5p>0 b-c!z:5q>0", "c", api.ErrProjectCarries},
	{"a-b!x>1,y>2 b-c!z:5p.r>0 b-c!z:5q.r>0", "c", api.ErrProjectCarries},
	{"a-b!x>1,y>2 b-c!z:5p>0 b-c!z:4>0", "c", api.ErrProjectCarries},
	// Among other labels, in another order, and in the third point.
	{"a-b!x>1,y>2 c-b!w>0,z:1>0 c-b!z:2>0,w>0", "c", api.ErrProjectCarries},
	{"a-b!x>1,y>2 b-c!w>0,z:1>0,y>0 b-c!z:2>0", "c", api.ErrProjectCarries},
	{"a-b!x>1,y>2 b-c!z:1>0,a>0 b-c!b>0,z>0", "c", api.ErrProjectCarries},
	{"a-b!x>1,y>2,z>3 b-c!z:1>0 b-c!z:1>0 b-c!z:2>0", "c", api.ErrProjectCarries},
	{"a-b!x>1,y>2,z>3 b-c!z:1>0 b-c!y>0 b-c!z:2>0,y>0", "c", api.ErrProjectCarries},
	// Recv points whose labels together are more than MaxArms.
	{"a-b!x>1,y>2 b-c!a>0,b>0,c>0,d>0,e>0,f>0 b-c!g>0", "c", api.ErrProjectLarge},
	{"a-b!x>1,y>2 b-c!a>0,b>0,c>0,d>0 b-c!d>0,e>0,f>0,g>0", "c", api.ErrProjectLarge},
	{"a-b!x>1,y>2 b-c!a>0,b>0,c>0,d>0,e>0,f>0 b-c!g>0,h>0,i>0,j>0,k>0,l>0", "c", api.ErrProjectLarge},
	{"a-b!x>1,y>2,z>3 b-c!a>0,b>0,c>0 b-c!d>0,e>0 b-c!f>0,g>0", "c", api.ErrProjectLarge},
}

func TestRoleErrors(t *testing.T) {
	for _, c := range refusals {
		is(t, proto(c.p), c.role, "", c.want)
	}
}

// What is not refused, but nearly so.
func TestRoleOfMaxArmsLabels(t *testing.T) {
	six, same := "b-c!a>0,b>0,c>0,d>0,e>0,f>0", "b?a>0,b>0,c>0,d>0,e>0,f>0"
	for _, points := range []string{six, six + " b-c!a>0", six + " " + six, six + " b-c!f>0,e>0,d>0,c>0,b>0,a>0", "b-c!a>0,b>0,c>0 b-c!d>0,e>0,f>0", "b-c!f>0 b-c!a>0,b>0,c>0,d>0,e>0", "b-c!a>0,b>0,c>0,d>0 b-c!c>0,d>0,e>0,f>0", "b-c!f>0,e>0 b-c!d>0,c>0 b-c!b>0,a>0"} {
		labels := []string{"x>1", "y>2", "z>3"}[:len(strings.Fields(points))]
		is(t, proto("a-b!"+strings.Join(labels, ",")+" "+points), "c", same, api.OK)
	}
	is(t, proto("a-b!x>1,y>2 c-b!a>0,b>0,c>0,d>0,e>0,f>0 c-b!f>0,e>0,d>0,c>0,b>0,a>0"), "c", "b!a>0,b>0,c>0,d>0,e>0,f>0", api.OK)
}

// Two faults of different kinds at one turn: the order of the steps decides.
func TestRoleOfTwoFaultsAtOneTurn(t *testing.T) {
	seven := "b-c!a>0,b>0,c>0,d>0,e>0,f>0 b-c!g>0"
	for _, c := range []struct {
		p    string
		want api.Errno
	}{
		// The look at the turn comes before the turn.
		{"a-b!x>1,y>2,z>3 b-c!z>0 c-b!z>0 .", api.ErrProjectEnd},
		{"a-b!x>1,y>2,z>3 c-b!z>0 c-b!w>0 .", api.ErrProjectEnd},
		{"a-b!x>1,y>2,z>3 b-c!z>0 b-c!z:1>0 .", api.ErrProjectEnd},
		{"a-b!x>1,y>2,z>3 " + seven + " .", api.ErrProjectEnd},
		// From and To, and with other labels, other Carries, too many labels, or a Next at which to look is an error.
		{"a-b!x>1,y>2 b-c!z>0 c-b!w>0", api.ErrProjectMix},
		{"a-b!x>1,y>2 c-b!z>0 c-a!w>0", api.ErrProjectMix},
		{"a-b!x>1,y>2 c-b!z>0 c-a!z:1>0", api.ErrProjectMix},
		{"a-b!x>1,y>2 b-c!z>0 a-c!z:1>0", api.ErrProjectMix},
		{"a-b!x>1,y>2,z>3 " + seven + " a-c!g>0", api.ErrProjectMix},
		{"a-b!x>1,y>2,z>3 " + seven + " c-b!g>0", api.ErrProjectMix},
		{"a-b!x>1,y>2 b-c!z>0 c-b!w>3 .", api.ErrProjectMix},
		{"a-b!x>1,y>2 b-c!z>3 a-c!z>0 .", api.ErrProjectMix},
		// Other labels, and other Carries, more labels than MaxArms together, or a look.
		{"a-b!x>1,y>2 c-b!z>0 c-b!z:1>0,w>0", api.ErrProjectSays},
		{"a-b!x>1,y>2 c-b!a>0,b>0,c>0,d>0,e>0,f>0 c-b!g>0", api.ErrProjectSays},
		{"a-b!x>1,y>2 c-b!a:1>0,b>0,c>0,d>0 c-b!e>0,f>0,g>0,a>0", api.ErrProjectSays},
		{"a-b!x>1,y>2 c-b!z>3 c-b!z>0,w>0 .", api.ErrProjectSays},
		// Too many labels, and other Carries, or a look.
		{"a-b!x>1,y>2 b-c!a>0,b>0,c>0,d>0,e>0,f>0 b-c!g>0,a:1>0", api.ErrProjectLarge},
		{"a-b!x>1,y>2 b-c!a>0,b>0,c>0,d>0,e>0,f>3 b-c!g>0,f>0 .", api.ErrProjectLarge},
		// Other Carries, and a look, at this label or at one before.
		{"a-b!x>1,y>2 b-c!z>0 b-c!z:1>3 .", api.ErrProjectCarries},
		{"a-b!x>1,y>2 c-b!a>3,z>0 c-b!a>0,z:1>0 .", api.ErrProjectCarries},
		{"a-b!x>1,y>2 b-c!a>3,z>0 b-c!a>0,z:1>0 .", api.ErrProjectCarries},
		// The Says of Send alone, though the labels of Recv differ as well.
		{"a-b!x>1,y>2 b-c!z>0 b-c!z:1>0,w>0", api.ErrProjectCarries},
	} {
		is(t, proto(c.p), "c", "", c.want)
	}
}

// numbered has the numbers of points in the place of N1 and N2, those of the two points behind point n.
func numbered(points string, n int) string {
	return strings.NewReplacer("N1", strconv.Itoa(n+1), "N2", strconv.Itoa(n+2)).Replace(points)
}

// Two turns with a fault each: the turns are made in the order of their numbers, and the looks at what follows a turn come before the next turn.
func TestRoleOfTwoFaultyTurns(t *testing.T) {
	// What stands at the points from 3 to 5, and what is wrong with it. All lead to point 12, from which all is well.
	faults := []struct {
		points string
		want   api.Errno
	}{
		{"a-b!l>N1,r>N2 b-c!z>12 c-b!z>12", api.ErrProjectMix},
		{"a-b!l>N1,r>N2 c-b!z>12 c-b!w>12", api.ErrProjectSays},
		{"a-b!l>N1,r>N2 c-b!z>12 c-b!z:1>12", api.ErrProjectCarries},
		{"a-b!l>N1,r>N2 b-c!a>12,b>12,c>12,d>12 b-c!e>12,f>12,g>12", api.ErrProjectLarge},
		{"b-c!q>N1 a-b!l>12,r>N2 .", api.ErrProjectEnd},
	}
	for _, one := range faults {
		for _, two := range faults {
			// From point 0, c hears x or y; the first turn is that of x, wherever its points stand. Points 9 and 10 make a way to the second fault longer.
			for _, start := range []string{"a-c!x>3,y>6", "a-c!y>6,x>3", "a-c!x>3,y>9", "a-c!x>9,y>6", "a-c!x>6,y>3", "a-c!y>3,x>6"} {
				p := proto(start + " . . " + numbered(one.points, 3) + " " + numbered(two.points, 6) + " a-b!m>10 b-c!n>6 . b-c!ok>0")
				want := one.want
				if strings.Contains(start, "x>6") || strings.Contains(start, "x>9") {
					want = two.want
				}
				is(t, p, "c", "", want)
			}
		}
	}
	// The look at y is before the turn of x is made.
	for _, c := range []struct {
		p    string
		want api.Errno
	}{
		{"a-c!x>1,y>4 a-b!l>2,r>3 b-c!z>0 c-b!z>0 a-b!l>0,r>5 .", api.ErrProjectEnd},
		{"a-c!x>4,y>1 a-b!l>2,r>3 b-c!z>0 c-b!z>0 a-b!l>0,r>5 .", api.ErrProjectEnd},
		{"a-c!x>4,y>1 a-b!l>2,r>3 b-c!z>0 c-b!z>0 b-c!l>6 . a-b!l>0,r>5", api.ErrProjectEnd},
		{"a-c!x>1,y>4 a-b!l>2,r>3 b-c!z>0 c-b!z>0 b-c!l>6 . a-b!l>0,r>5", api.ErrProjectMix},
	} {
		is(t, proto(c.p), "c", "", c.want)
	}
}

func TestRoleOfInvalidProtocols(t *testing.T) {
	good := proto("a-b!x>1 b-c!y>0")
	is(t, good, "c", "b?y>0", api.OK)
	for _, role := range []string{"", "d", "p", "x", "A", "end", "ab", "a ", " a", "a\x00", "a b", "a.b", "p.a", strings.Repeat("a", 1000)} {
		is(t, good, role, "", api.ErrProjectForm)
		is(t, proto("."), role, "", api.ErrProjectForm)
	}
	many := good
	many.Points = slices.Concat(good.Points, make([]api.Point, 23))
	bad := []api.Protocol{{}, many, rolesOf("a b", "a-b!x>1 b-c!y>0"), rolesOf("a b c b", "a-b!x>0"), rolesOf("a b c d e f", "a-b!x>0"), rolesOf("a", "."), rolesOf("a", ""), rolesOf("a end", ".")}
	for _, points := range []string{"", "a-a!x>0", "a-b!x>1", "a-b!x>-1", "a-b!x>0,x>0", "a-b!X>0", "a-b!x:6>0", "a-b!x:5>0", "a-b!x:1n>0", "a-d!x>0", "d-a!x>0", "-a!x>0", "a-!x>0", "a-b!a>0,b>0,c>0,d>0,e>0,f>0,g>0", ". a-a!x>0", "a-b!x>0 b-d!x>0", "a-b!x>0 b-c!x>9"} {
		bad = append(bad, proto(points))
	}
	for _, name := range []string{"", "P", "end", "p.q", "abcdefghijklm"} {
		p := sketch.CopyProtocol(good)
		p.Name = name
		bad = append(bad, p)
	}
	for _, p := range bad {
		for _, role := range []string{"", "a", "b", "c", "d"} {
			is(t, p, role, "", api.ErrProjectForm)
		}
	}
}

func TestNameOfAProjection(t *testing.T) {
	for _, name := range []string{"p", "z9", "abcdefghijkl", "a"} {
		for _, roles := range []string{"a b", "b a", "abcdefghijkl b", "p z9", "a0 a"} {
			p := rolesOf(roles, "")
			p.Name = name
			p.Points = []api.Point{{From: p.Roles[0], To: p.Roles[1], Arms: []api.Arm{{Label: "x"}}}}
			is(t, p, p.Roles[0], p.Roles[1]+"!x>0", api.OK)
			is(t, p, p.Roles[1], p.Roles[0]+"?x>0", api.OK)
			p.Points = []api.Point{{}}
			is(t, p, p.Roles[0], ".", api.OK)
			if l, _ := project.Role(p, p.Roles[0]); l.Name != name+"."+p.Roles[0] {
				t.Errorf("P8.1: the projection of %s to %s has the Name %s", name, p.Roles[0], l.Name)
			}
		}
	}
}

// counter is a protocol in which c deals with b, always with x or y, and has 2 to the power of k turns: its near sets are point 1 with any of the points from 2 to k+1. In front of them it has as many turns as the way is long, with one point each.
func counter(kind, k, way int) api.Protocol {
	p := proto("")
	deal := func(label string, next ...int) api.Point {
		x := api.Point{From: "b", To: "c"}
		if kind == api.Send {
			x.From, x.To = x.To, x.From
		}
		for i, n := range next {
			x.Arms = append(x.Arms, api.Arm{Label: label[i : i+1], Next: n})
		}
		return x
	}
	// Point 0 is behind x of point 1: whether a sends b l or r, c does not see.
	start := k + 2
	p.Points = append(p.Points, api.Point{From: "a", To: "b", Arms: []api.Arm{{Label: "l", Next: 1}, {Label: "r", Next: 2}}}, deal("xy", 0, 1))
	for i := 2; i <= k+1; i++ {
		next := i + 1
		if i == k+1 {
			next = 1
		}
		p.Points = append(p.Points, deal("xy", next, next))
	}
	for i := range way {
		next := start + i + 1
		if i == way-1 {
			next = 1
		}
		p.Points = append(p.Points, deal("w", next))
	}
	if way > 0 {
		// The way begins with point 0.
		p.Points[0], p.Points[start] = p.Points[start], p.Points[0]
		for i := range p.Points {
			for j, a := range p.Points[i].Arms {
				if a.Next == 0 {
					p.Points[i].Arms[j].Next = start
				}
			}
		}
	}
	return p
}

// The turns of c are 2 to the power of 5, and as many as the way is long.
func TestRoleOfMaxTurns(t *testing.T) {
	for _, kind := range []int{api.Recv, api.Send} {
		for way := 1; way <= 15; way++ {
			p := counter(kind, 5, way)
			if !globe.May(p) {
				t.Fatal("not valid:", p)
			}
			l, e := project.Role(p, "c")
			if way <= 8 && (e != api.OK || len(l.Turns) != 32+way) {
				t.Errorf("P8.1: with %d turns, c is refused or has others: %d, %d", 32+way, len(l.Turns), e)
			}
			if way > 8 && (e != api.ErrProjectLarge || len(l.Turns) > 0 || l.Name != "") {
				t.Errorf("P8.1: with %d turns: %v, %d", 32+way, l, e)
			}
			check(t, p)
		}
	}
	if api.MaxTurns != 40 {
		t.Fatal("the protocols of this test are for 40 turns")
	}
	for k := 1; k <= 9; k++ {
		for _, kind := range []int{api.Recv, api.Send} {
			l, e := project.Role(counter(kind, k, 0), "c")
			if k <= 5 && (e != api.OK || len(l.Turns) != 1<<k) || k > 5 && e != api.ErrProjectLarge {
				t.Errorf("P8.1: with 2 to the power of %d turns: %d, %d", k, len(l.Turns), e)
			}
			check(t, counter(kind, k, 0))
		}
	}
}

// In a counter of 32 turns and as many more as the way is long, all near sets with point 6 are found last. It has further arms here, so that the looks at their Nexts, at the first turn with point 6, find the next turns.
func TestRoleOfMaxTurnsAndOtherFaults(t *testing.T) {
	const mix, torn, fine = "a-b!l>N1,r>N2 b-c!z>1 c-b!z>1", "a-b!l>1,r>N1 . .", "b-c!z>1 . ."
	for _, c := range []struct {
		arms, one, two string
		way            int
		want           api.Errno
	}{
		{"p>ONE", fine, fine, 7, api.OK},
		{"p>ONE", fine, fine, 8, api.ErrProjectLarge},
		{"p>ONE,q>TWO", fine, fine, 6, api.OK},
		{"p>ONE,q>TWO", fine, fine, 7, api.ErrProjectLarge},
		// The turn that cannot be made is the last one that there may be, or one too many.
		{"p>ONE", mix, fine, 7, api.ErrProjectMix},
		{"p>ONE", mix, fine, 8, api.ErrProjectLarge},
		// It is not made any more before there are too many.
		{"p>ONE,q>TWO", mix, fine, 6, api.ErrProjectMix},
		{"p>ONE,q>TWO", mix, fine, 7, api.ErrProjectLarge},
		{"q>ONE,p>TWO", mix, fine, 6, api.ErrProjectMix},
		{"q>ONE,p>TWO", mix, fine, 7, api.ErrProjectLarge},
		// Of one look, the error that there may be nothing any more comes first; of two looks, that of the first label.
		{"p>ONE", torn, fine, 7, api.ErrProjectEnd},
		{"p>ONE", torn, fine, 8, api.ErrProjectEnd},
		{"p>ONE,q>TWO", torn, fine, 8, api.ErrProjectEnd},
		{"p>ONE,q>TWO", fine, torn, 7, api.ErrProjectEnd},
		{"p>ONE,q>TWO", fine, torn, 8, api.ErrProjectLarge},
		{"p>ONE,q>TWO", mix, torn, 7, api.ErrProjectEnd},
		{"q>ONE,p>TWO", torn, fine, 7, api.ErrProjectEnd},
		{"q>ONE,p>TWO", torn, fine, 8, api.ErrProjectLarge},
		// With all turns that there may be, those that are there are found still.
		{"p>0,q>1", fine, fine, 8, api.OK},
		{"p>7,q>8", fine, fine, 8, api.OK},
		{"p>ONE,q>ONE", fine, fine, 7, api.OK},
		{"p>6", fine, fine, 8, api.ErrProjectLarge},
	} {
		p := counter(api.Recv, 5, c.way)
		one := len(p.Points)
		arms := strings.NewReplacer("ONE", strconv.Itoa(one), "TWO", strconv.Itoa(one+3)).Replace(c.arms)
		p.Points[6].Arms = append(p.Points[6].Arms, sketch.Arms(arms)...)
		p.Points = append(p.Points, proto(numbered(c.one, one)+" "+numbered(c.two, one+3)).Points...)
		if _, e := project.Role(p, "c"); e != c.want || !globe.May(p) {
			t.Errorf("P8.1: with a way of %d and the arms %s: %d, want %d", c.way, c.arms, e, c.want)
		}
		check(t, p)
	}
}
