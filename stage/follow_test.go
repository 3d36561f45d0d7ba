package stage_test

import (
	"fmt"
	"math/rand"
	"slices"
	"strings"
	"testing"

	"repartee/api"
	"repartee/book"
	"repartee/names"
	"repartee/sketch"
	"repartee/stage"
)

// found are the stages, up to a number of them, that are reached from one, in the order in which they are met.
func found(t *testing.T, b api.Book, roles []string, s api.Stage, most int) []api.Stage {
	t.Helper()
	l := []api.Stage{s}
	met := map[string]bool{fmt.Sprint(s): true}
	for i := 0; i < len(l); i++ {
		for _, m := range stage.Moves(b, roles, l[i]) {
			next, e := stage.Do(b, roles, l[i], m)
			if e != api.OK || !stage.May(b, roles, next) {
				t.Fatalf("P13.2: Do(%v, %q, %v, %v) = %v, %d", b, roles, l[i], m, next, e)
			}
			if key := fmt.Sprint(next); !met[key] && len(l) < most {
				met[key] = true
				l = append(l, next)
			}
		}
	}
	for i, x := range l[:min(len(l), 20)] {
		for j, y := range l {
			if stage.Same(x, y) != (i == j) {
				t.Fatalf("P13.3: Same(%v, %v) = %v", x, y, i != j)
			}
		}
	}
	return l
}

// stuck are the stages that have no moves, have no full queue and are not over.
func stuck(b api.Book, roles []string, l []api.Stage) []api.Stage {
	var all []api.Stage
	for _, s := range l {
		full := slices.ContainsFunc(s.Mail, func(queue []string) bool { return len(queue) == 64 })
		if len(stage.Moves(b, roles, s)) == 0 && !full && !stage.Over(b, roles, s) {
			all = append(all, s)
		}
	}
	return all
}

var searched = []struct {
	what, roles, nodes, roots string
	stages, stuck             int
}{
	{"the document's example", "a b", "b!x>2 a?x>2 .", "0 1", 3, 0},
	{"two that send to one another first, and receive then", "a b", "b!x>1 b?y>4 a!y>3 a?x>4 .", "0 2", 7, 0},
	{"two that receive from one another first, and send then", "a b", "b?y>1 b!x>4 a?x>3 a!y>4 .", "0 2", 1, 1},
	{"a letter that is not expected", "a b", "b!x>2,y>2 a?x>2 .", "0 1", 4, 1},
	{"a letter that nobody receives", "a b", "b!x>1 .", "0 1", 2, 1},
	{"a choice of two, in a loop that ends", "a b", "b!x>1,y>4 b?z>0 a?x>3,y>4 a!z>2 .", "0 2", 6, 0},
	{"three in a ring", "a b c", "b!x>1 c?x>6 a?x>3 c!x>6 b?x>5 a!x>6 .", "0 2 4", 7, 0},
	{"three in a ring, each of whom receives first", "a b c", "c?x>1 b!x>6 a?x>3 c!x>6 b?x>5 a!x>6 .", "0 2 4", 1, 1},
	{"two pairs, one beside the other", "a b c d", "b!x>4 a?x>4 d!x>4 c?x>4 .", "0 1 2 3", 9, 0},
	{"one that is over at once", "a", ".", "0", 1, 0},
	{"a loop without an end, and up to MaxMail letters under way", "a b", "b!x>0 a?x>1", "0 1", 65, 0},
	{"the same, and two labels", "a b", "b!x>1 b!y>0 a?x>3 a?y>2", "0 2", 130, 0},
}

func TestSearches(t *testing.T) {
	for _, c := range searched {
		b, roles := sketch.Book("", c.nodes), strings.Fields(c.roles)
		s, e := stage.Begin(b, roles, sketch.Numbers(c.roots))
		if e != api.OK {
			t.Fatalf("P13.1: %s: Begin: %d", c.what, e)
		}
		l := found(t, b, roles, s, 1000)
		if len(l) != c.stages || len(stuck(b, roles, l)) != c.stuck {
			t.Errorf("P13.2: %s: %d stages, want %d, of which %v are stuck: %v", c.what, len(l), c.stages, stuck(b, roles, l), l)
		}
		for _, s := range l {
			check(t, b, roles, s)
		}
	}
}

// session is a protocol with the book of its local types and the stage with which it begins.
func session(t *testing.T, p api.Protocol) (api.Book, api.Stage) {
	t.Helper()
	b, f := book.Of([]api.Protocol{sketch.Protocol("other", "a b", "a-b!x>0"), p}, nil)
	if f != (api.Fault{}) {
		t.Fatalf("the book of %v: %v", p, f)
	}
	var roots []int
	for _, role := range p.Roles {
		root, _ := book.Root(b, p.Name+"."+role)
		roots = append(roots, root)
	}
	s, e := stage.Begin(b, p.Roles, roots)
	if e != api.OK {
		t.Fatalf("P13.1: Begin of %v: %d", p, e)
	}
	return b, s
}

// checkProjected searches the stages of a protocol, up to a number of them: none is stuck, and no letter comes that its receiver does not expect.
func checkProjected(t *testing.T, p api.Protocol, most int) {
	t.Helper()
	b, s := session(t, p)
	l := found(t, b, p.Roles, s, most)
	if bad := stuck(b, p.Roles, l); len(bad) > 0 {
		t.Fatalf("P8.4: stages of %v are stuck: %v", p, bad)
	}
	for _, s := range l {
		moves := stage.Moves(b, p.Roles, s)
		for role, at := range s.At {
			n := b.Nodes[at]
			if n.Kind != api.Recv || len(queues(p.Roles, s)[way{n.Peer, p.Roles[role]}]) == 0 {
				continue
			}
			if !slices.ContainsFunc(moves, func(m api.Move) bool { return m.Role == role }) {
				t.Fatalf("P8.4: in the stage %v of %v, role %d cannot receive what comes", s, p, role)
			}
		}
	}
}

// checkWalk goes along a walk of a protocol, where each letter is received as soon as it is sent.
func checkWalk(t *testing.T, r *rand.Rand, p api.Protocol, most int) {
	t.Helper()
	b, s := session(t, p)
	point := 0
	for range most {
		x := p.Points[point]
		if stage.Over(b, p.Roles, s) != (x.From == "") {
			t.Fatalf("P13.3: at point %d of %v the stage %v is over, or the point is the end, but not both", point, p, s)
		}
		if x.From == "" {
			return
		}
		arm := pick(r, x.Arms...)
		from, to := names.Place(p.Roles, x.From), names.Place(p.Roles, x.To)
		sent, e1 := stage.Do(b, p.Roles, s, api.Move{Kind: api.Send, Role: from, Label: arm.Label})
		next, e2 := stage.Do(b, p.Roles, sent, api.Move{Kind: api.Recv, Role: to, Label: arm.Label})
		if e1 != api.OK || e2 != api.OK || stage.Same(s, sent) || len(sent.Mail[from*len(p.Roles)+to]) != 1 || len(slices.Concat(next.Mail...)) > 0 {
			t.Fatalf("P13.2: at point %d of %v with %s: %d, %d, %v, %v, %v", point, p, arm.Label, e1, e2, s, sent, next)
		}
		s, point = next, arm.Next
	}
}

func TestProjectionsAreNeverStuck(t *testing.T) {
	r := rand.New(rand.NewSource(16))
	for _, p := range sketch.Projectable() {
		checkProjected(t, p, 300)
		for range 10 {
			checkWalk(t, r, p, 30)
		}
	}
}

// Protocols of two roles are always projectable.
func TestRandomProtocolsOfTwoRoles(t *testing.T) {
	r := rand.New(rand.NewSource(17))
	for range 200 {
		p := sketch.Draw(r.Intn).Protocol([]string{"a", "b"}, 8)
		checkProjected(t, p, 60)
		checkWalk(t, r, p, 20)
	}
}
