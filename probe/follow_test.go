package probe_test

import (
	"math/rand"
	"slices"
	"strings"
	"testing"

	"repartee/api"
	"repartee/book"
	"repartee/probe"
	"repartee/project"
	"repartee/sketch"
	"repartee/stage"
)

// projected is a session in which each role of a protocol follows its projection, in a book that has other types, too.
func projected(t *testing.T, p api.Protocol) session {
	t.Helper()
	b, f := book.Of([]api.Protocol{sketch.Protocol("other", "a b", "a-b!x>0"), p}, nil)
	if f != (api.Fault{}) {
		t.Fatalf("the book of %v: %v", p, f)
	}
	q := session{b: b, roles: p.Roles}
	for _, role := range p.Roles {
		root, _ := book.Root(b, p.Name+"."+role)
		q.roots = append(q.roots, root)
	}
	return q
}

// checkProjected checks P14.3 of a protocol, and returns the report of the search for at most so many stages.
func checkProjected(t *testing.T, r *rand.Rand, p api.Protocol, most int) api.Report {
	t.Helper()
	q := projected(t, p)
	for _, limit := range []int{most, 1 + r.Intn(most)} {
		if x, e := probe.Search(q.b, q.roles, q.roots, limit); e != api.OK || x.Stuck || len(x.Way) > 0 {
			t.Fatalf("P14.3: Search of %v with at most %d stages = %v, %d", p, limit, x, e)
		}
	}
	checkWhole(t, r, q, most)
	return check(t, q, most)
}

// checkWhole checks that what Play reaches has been found, and has no longer queues, if the search was whole.
func checkWhole(t *testing.T, r *rand.Rand, q session, most int) {
	t.Helper()
	x, _ := probe.Search(q.b, q.roles, q.roots, most)
	if !x.Whole {
		return
	}
	found := simpleReached(t, q, most)
	for range 10 {
		s := play(t, r, q, r.Intn(60))
		if !slices.ContainsFunc(found, func(y reached) bool { return stage.Same(s, y.s) }) {
			t.Fatalf("P14.3: %v of %v is not found", s, q)
		}
		for i, queue := range s.Mail {
			if len(queue) > x.Long[i] {
				t.Fatalf("P14.3: %v of %v has longer queues than %v", s, q, x.Long)
			}
		}
	}
	if len(found) != x.States {
		t.Fatalf("P14.3: %d stages of %v can be reached, and %d are found", len(found), q, x.States)
	}
}

// play is where Play leads on a random way of up to so many moves.
func play(t *testing.T, r *rand.Rand, q session, most int) api.Stage {
	t.Helper()
	var way []int
	for {
		s, e := probe.Play(q.b, q.roles, q.roots, way)
		if e != api.OK {
			t.Fatalf("P14.1: Play(%v, %v) = %d", q, way, e)
		}
		n := len(stage.Moves(q.b, q.roles, s))
		if n == 0 || len(way) == most {
			return s
		}
		way = append(way, r.Intn(n))
	}
}

func TestProjectionsAreNeverStuck(t *testing.T) {
	r := rand.New(rand.NewSource(22))
	for _, p := range sketch.Projectable() {
		checkProjected(t, r, p, 300)
	}
}

// What may be under way at once in a protocol.
func TestProjectionsByHand(t *testing.T) {
	r := rand.New(rand.NewSource(23))
	for _, c := range []struct {
		what, roles, points string
		states              int
		whole               bool
		long                string
	}{
		{"the end", "a b", ".", 1, true, "0 0 0 0"},
		{"one letter", "a b", "a-b!x>1 .", 3, true, "0 1 0 0"},
		{"a loop of letters and answers", "a b", "a-b!x>1,z>2 b-a!y>0 .", 6, true, "0 1 1 0"},
		{"three letters ahead", "a b", "a-b!x>1 a-b!x>2 a-b!x>3 .", 10, true, "0 3 0 0"},
		{"a loop of letters without answers", "a b", "a-b!x>0", 65, false, "0 64 0 0"},
		{"three in a ring", "a b c", "a-b!x>1 b-c!y>2 c-a!z>0", 6, true, "0 1 0 0 0 1 1 0 0"},
		{"two that do not wait for one another", "a b c d", "a-b!x>1 c-d!x>2 .", 9, true, "0 1 0 0 0 0 0 0 0 0 0 1 0 0 0 0"},
	} {
		x := checkProjected(t, r, sketch.Protocol("p", c.roles, c.points), 400)
		if x.States != c.states || x.Whole != c.whole || !slices.Equal(x.Long, sketch.Numbers(c.long)) {
			t.Errorf("P14.2: %s: %v", c.what, x)
		}
	}
}

func TestRandomProjections(t *testing.T) {
	r := rand.New(rand.NewSource(24))
	var projectable, whole [6]int
	for i := range 600 {
		n := 2 + i%4
		p := sketch.Draw(r.Intn).Protocol(strings.Split("abcde", "")[:n], 4+i%5)
		if i%8 < 4 {
			withoutLoops(p)
		}
		if _, _, e := project.All(p); e != api.OK {
			continue
		}
		projectable[n]++
		if x := checkProjected(t, r, p, 100); x.Whole && x.States > 4 {
			whole[n]++
		}
	}
	if slices.Min(projectable[2:]) < 50 || slices.Min(whole[2:]) < 20 {
		t.Error("too few protocols are projectable, or whole:", projectable, whole)
	}
}

// withoutLoops lets each point of p lead to later ones alone, of which the last one is the end.
func withoutLoops(p api.Protocol) {
	last := len(p.Points) - 1
	p.Points[last] = api.Point{}
	for i, x := range p.Points[:last] {
		for k := range x.Arms {
			x.Arms[k].Next = i + 1 + x.Arms[k].Next%(last-i)
		}
	}
}

// What is said of a search that is whole holds for any session.
func TestWholeSearches(t *testing.T) {
	r := rand.New(rand.NewSource(25))
	for range 500 {
		roles, b, roots := sketch.Draw(r.Intn).Session()
		checkWhole(t, r, session{b, roles, roots}, 100)
	}
}
