package project_test

import (
	"slices"
	"strconv"
	"strings"
	"testing"

	"repartee/api"
	"repartee/globe"
	"repartee/turns"
)

// goal is an arm of a point or a turn, found by its label.
func goal(arms []api.Arm, label string) (api.Arm, bool) {
	i := slices.IndexFunc(arms, func(a api.Arm) bool { return a.Label == label })
	if i < 0 {
		return api.Arm{}, false
	}
	return arms[i], true
}

// place is a point together with the turn of each role.
type place struct {
	point int
	turns [5]int
}

// checkWalks goes along all walks of a protocol, and along with it each role along its projection: at each point its two roles can do what the point says, the sender all of it and nothing else, and where a role is lost it is at its end.
func checkWalks(t *testing.T, p api.Protocol, all []api.Local) {
	t.Helper()
	met := map[place]bool{{}: true}
	todo := []place{{}}
	for i := 0; i < len(todo); i++ {
		here := todo[i]
		checkPlace(t, p, all, here)
		x := p.Points[here.point]
		for _, arm := range x.Arms {
			next := here
			next.point = arm.Next
			for r, role := range p.Roles {
				turn := all[r].Turns[here.turns[r]]
				kind, peer := api.Send, x.To
				if role == x.To {
					kind, peer = api.Recv, x.From
				}
				if role != x.From && role != x.To {
					continue
				}
				a, can := goal(turn.Arms, arm.Label)
				if turn.Kind != kind || turn.Peer != peer || !can || a.Carries != arm.Carries {
					t.Fatalf("P8.4: at point %d of %v, %s cannot do %s: %v, turn %d", here.point, p, role, arm.Label, all[r], here.turns[r])
				}
				next.turns[r] = a.Next
			}
			if !met[next] {
				met[next] = true
				todo = append(todo, next)
			}
		}
	}
}

func checkPlace(t *testing.T, p api.Protocol, all []api.Local, here place) {
	t.Helper()
	x := p.Points[here.point]
	for r, role := range p.Roles {
		turn := all[r].Turns[here.turns[r]]
		if role == x.From && len(turn.Arms) != len(x.Arms) {
			t.Fatalf("P8.4: at point %d of %v, %s can say what the point does not: %v", here.point, p, role, turn)
		}
		if (turn.Kind == api.End) != globe.Lost(p, role, here.point) {
			t.Fatalf("P8.4: at point %d of %v, %s is at %v", here.point, p, role, turn)
		}
	}
}

// checkWords checks that the walks of a projection are the walks of the protocol without what the role does not see, no more and no fewer, up to this length.
func checkWords(t *testing.T, p api.Protocol, role string, l api.Local, length int) {
	t.Helper()
	s := simpleOf(p, role)
	var on func(word []string, near uint32)
	on = func(word []string, near uint32) {
		to := map[string]uint32{}
		for i, x := range p.Points {
			if near>>i&1 == 1 {
				for _, a := range x.Arms {
					to[a.Label] |= 1 << a.Next
				}
			}
		}
		at, is := turns.Walk(l, word)
		if !is || len(l.Turns[at].Arms) != len(to) {
			t.Fatalf("P8.1: the projection of %v to %s, behind the walk %q: %v, %v", p, role, word, is, l)
		}
		for label, nexts := range to {
			if _, is := goal(l.Turns[at].Arms, label); !is {
				t.Fatalf("P8.1: the projection of %v to %s does not go on with %s behind the walk %q: %v", p, role, label, word, l)
			}
			if len(word) < length {
				on(append(slices.Clone(word), label), s.span(nexts)&s.mine)
			}
		}
	}
	on(nil, s.span(1)&s.mine)
}

// session is a session in which each role follows its projection alone: the turn of each, and the letters that are under way from each to each, the oldest first.
type session struct {
	turns   []int
	letters [][]string
}

func (s session) key() string {
	var k []string
	for _, at := range s.turns {
		k = append(k, strconv.Itoa(at))
	}
	for _, l := range s.letters {
		k = append(k, strings.Join(l, " "))
	}
	return strings.Join(k, "|")
}

// after is the session when the role goes on to this turn and a queue has these letters.
func (s session) after(role, turn, queue int, letters []string) session {
	next := session{slices.Clone(s.turns), slices.Clone(s.letters)}
	next.turns[role] = turn
	next.letters[queue] = letters
	return next
}

// nexts are the sessions after one move, and whether all letters can still be received by those to whom they come next.
func (s session) nexts(roles []string, all []api.Local) ([]session, bool) {
	var l []session
	for r := range roles {
		turn := all[r].Turns[s.turns[r]]
		peer := slices.Index(roles, turn.Peer)
		to, from := r*len(roles)+peer, peer*len(roles)+r
		if turn.Kind == api.Send {
			for _, a := range turn.Arms {
				l = append(l, s.after(r, a.Next, to, append(slices.Clone(s.letters[to]), a.Label)))
			}
		}
		if turn.Kind == api.Recv && len(s.letters[from]) > 0 {
			a, can := goal(turn.Arms, s.letters[from][0])
			if !can {
				return nil, false
			}
			l = append(l, s.after(r, a.Next, from, s.letters[from][1:]))
		}
	}
	return l, true
}

// over reports whether every role is at its end and no letter is under way.
func (s session) over(all []api.Local) bool {
	for r, at := range s.turns {
		if all[r].Turns[at].Kind != api.End {
			return false
		}
	}
	return !slices.ContainsFunc(s.letters, func(l []string) bool { return len(l) > 0 })
}

// checkSessions searches the sessions in which the roles follow their projections, up to a number of them, for one that is stuck.
func checkSessions(t *testing.T, p api.Protocol, all []api.Local, most int) {
	t.Helper()
	n := len(p.Roles)
	first := session{make([]int, n), make([][]string, n*n)}
	met := map[string]bool{first.key(): true}
	todo := []session{first}
	for i := 0; i < len(todo); i++ {
		nexts, can := todo[i].nexts(p.Roles, all)
		if !can || len(nexts) == 0 && !todo[i].over(all) {
			t.Fatalf("P8.4: ends that follow the projections of %v are stuck at %v", p, todo[i])
		}
		for _, next := range nexts {
			if k := next.key(); !met[k] && len(todo) < most {
				met[k] = true
				todo = append(todo, next)
			}
		}
	}
}

// checkFollows checks what follows for the projections of a protocol, if there is one to every role.
func checkFollows(t *testing.T, p api.Protocol, most int) bool {
	t.Helper()
	all, e := check(t, p)
	for _, role := range p.Roles {
		if l, e := simpleRole(p, role); e == api.OK {
			checkWords(t, p, role, l, 3)
		}
	}
	if e != api.OK {
		return false
	}
	checkWalks(t, p, all)
	checkSessions(t, p, all, most)
	return true
}

func TestWhatFollowsForTheTables(t *testing.T) {
	n := 0
	for _, text := range allTexts() {
		if checkFollows(t, proto(text), 300) {
			n++
		}
	}
	for _, text := range []string{"a-b!x>1 b-c!y>2 c-d!z>3 d-e!w>4 e-a!v>0", "a-b!l>1,r>2 b-c!x>3 b-c!y>4 c-d!p>5 c-d!q>5 d-e!z>0", "a-b!x>1 c-d!x>2 b-a!y>3 d-c!y>4 a-e!l>5,r>6 e-d!z>7 e-d!w>7 ."} {
		if checkFollows(t, rolesOf("a b c d e", text), 500) {
			n++
		}
	}
	if n < 30 {
		t.Error("too few of the protocols are projectable to every role:", n)
	}
}

func TestTwoRolesAreAlwaysProjectable(t *testing.T) {
	for _, text := range []string{".", "a-b!x>0", "b-a!x>0", "a-b!x>1 .", "a-b!x>1,y>2 . .", "a-b!x>1,y>2 b-a!x>1,z:5q>0 .", "b-a!z>1,y>2 b-a!x>1,z>0 a-b!w:3>0,v>1 .", "a-b!x>2 b-a!y>0 a-b!z>3 . a-b!x>4"} {
		for _, roles := range []string{"a b", "b a"} {
			checkTwoRoles(t, rolesOf(roles, text))
		}
	}
}

// checkTwoRoles checks a protocol of two roles: each is projectable, and all walks are walks of both projections and of the protocol.
func checkTwoRoles(t *testing.T, p api.Protocol) {
	t.Helper()
	all, e := check(t, p)
	if e != api.OK || len(all) != 2 {
		t.Fatalf("P8.3: %v is not projectable: %d", p, e)
	}
	checkFollows(t, p, 100)
	one, two := all[0], all[1]
	// Turn by turn, one is the other from the other side; so they have the same walks.
	for i, x := range one.Turns {
		y := two.Turns[i]
		if x.Kind == api.Send && y.Kind != api.Recv || x.Kind == api.Recv && y.Kind != api.Send || x.Kind == api.End && y.Kind != api.End || !slices.Equal(x.Arms, y.Arms) {
			t.Fatalf("P8.3: turn %d of the projections of %v: %v, %v", i, p, x, y)
		}
	}
	var on func(word []string)
	on = func(word []string) {
		_, is := globe.Walk(p, word)
		at, is1 := turns.Walk(one, word)
		at2, is2 := turns.Walk(two, word)
		if is1 != is || is2 != is || at != at2 {
			t.Fatalf("P8.3: the walk %q of %v: %v, %v, %v", word, p, is, is1, is2)
		}
		for _, label := range []string{"x", "y", "z", "w", "a", "x2", "xx"} {
			if is && len(word) < 4 {
				on(append(slices.Clone(word), label))
			}
		}
	}
	on(nil)
}
