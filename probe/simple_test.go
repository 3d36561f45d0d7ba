package probe_test

import (
	"slices"
	"strings"
	"testing"

	"repartee/api"
	"repartee/probe"
	"repartee/sketch"
	"repartee/stage"
)

// session is what a search begins with.
type session struct {
	b     api.Book
	roles []string
	roots []int
}

// sketched reads a session: its roles, the nodes of its book and the node at which each role begins.
func sketched(roles, nodes, roots string) session {
	return session{sketch.Book("", nodes), strings.Fields(roles), sketch.Numbers(roots)}
}

// reached is a stage and the way on which it is first met.
type reached struct {
	s   api.Stage
	way []int
}

// simpleReached tells the stages that a valid session can reach, in the order in which they are first met: all, or at least one more than most. It holds each against all others by Same.
func simpleReached(t *testing.T, q session, most int) []reached {
	t.Helper()
	first, e := stage.Begin(q.b, q.roles, q.roots)
	if e != api.OK {
		t.Fatalf("Begin(%v) = %d", q, e)
	}
	l := []reached{{s: first}}
	for i := 0; i < len(l) && len(l) <= most; i++ {
		for k, m := range stage.Moves(q.b, q.roles, l[i].s) {
			next, e := stage.Do(q.b, q.roles, l[i].s, m)
			if e != api.OK {
				t.Fatalf("Do(%v, %v, %v) = %d", q, l[i].s, m, e)
			}
			if !slices.ContainsFunc(l, func(x reached) bool { return stage.Same(x.s, next) }) {
				l = append(l, reached{next, slices.Concat(l[i].way, []int{k})})
			}
		}
	}
	return l
}

// isStuck reports whether a stage has no full queue, no moves, and is not over.
func isStuck(q session, s api.Stage) bool {
	for _, queue := range s.Mail {
		if len(queue) == 64 {
			return false
		}
	}
	return len(stage.Moves(q.b, q.roles, s)) == 0 && !stage.Over(q.b, q.roles, s)
}

// simpleReport tells what Search reports, of what simpleReached told for as many stages or more.
func simpleReport(q session, l []reached, most int) api.Report {
	found := l[:min(len(l), most)]
	r := api.Report{States: len(found), Whole: len(found) == len(l), Long: make([]int, len(q.roles)*len(q.roles))}
	for _, x := range found {
		for i, queue := range x.s.Mail {
			r.Long[i] = max(r.Long[i], len(queue))
			r.Whole = r.Whole && len(queue) < 64
		}
		if !r.Stuck && isStuck(q, x.s) {
			r.Stuck, r.Way = true, x.way
		}
	}
	return r
}

func sameReport(x, y api.Report) bool {
	return x.States == y.States && x.Whole == y.Whole && x.Stuck == y.Stuck && slices.Equal(x.Way, y.Way) && slices.Equal(x.Long, y.Long)
}

// copied is q in memory of its own.
func (q session) copied() session {
	return session{sketch.Copy(q.b), slices.Clone(q.roles), slices.Clone(q.roots)}
}

func (q session) same(p session) bool {
	return sketch.Same(q.b, p.b) && slices.Equal(q.roles, p.roles) && slices.Equal(q.roots, p.roots)
}

// check holds what Search and Play say of a valid session against the simple ones, for these limits and for the ways to the stages that are found within the greatest of them. It returns the report for that one.
func check(t *testing.T, q session, limits ...int) api.Report {
	t.Helper()
	before := q.copied()
	most := slices.Max(limits)
	l := simpleReached(t, q, most)
	for _, limit := range limits {
		want := simpleReport(q, l, limit)
		for range 2 {
			if r, e := probe.Search(q.b, q.roles, q.roots, limit); e != api.OK || !sameReport(r, want) {
				t.Fatalf("P14.2: Search(%v, %d) = %v, %d, want %v", q, limit, r, e, want)
			}
		}
		checkStuck(t, q, want)
	}
	for _, x := range l[:min(len(l), most, 40)] {
		checkPlay(t, q, x)
	}
	if !q.same(before) {
		t.Fatalf("P0.4: %v was changed to %v", before, q)
	}
	return simpleReport(q, l, most)
}

// checkStuck checks that Play leads on the way of a report to a stage that is stuck.
func checkStuck(t *testing.T, q session, r api.Report) {
	t.Helper()
	if !r.Stuck {
		return
	}
	if s, e := probe.Play(q.b, q.roles, q.roots, r.Way); e != api.OK || !isStuck(q, s) {
		t.Fatalf("P14.2: the way %v of %v leads to %v, %d", r.Way, q, s, e)
	}
}

// checkPlay checks Play on the way to a stage, and on ways that go on from there with moves that there are not.
func checkPlay(t *testing.T, q session, x reached) {
	t.Helper()
	before := slices.Clone(x.way)
	for range 2 {
		if s, e := probe.Play(q.b, q.roles, q.roots, x.way); e != api.OK || !sketch.SameStage(s, x.s) {
			t.Fatalf("P14.1: Play(%v, %v) = %v, %d, want %v", q, x.way, s, e, x.s)
		}
	}
	n := len(stage.Moves(q.b, q.roles, x.s))
	for _, wrong := range [][]int{{n}, {-1}, {n, 0}, {-1, 0}} {
		way := slices.Concat(x.way, wrong)
		if s, e := probe.Play(q.b, q.roles, q.roots, way); e != api.ErrProbeWay || len(s.At)+len(s.Mail) > 0 {
			t.Fatalf("P14.1: Play(%v, %v) = %v, %d", q, way, s, e)
		}
	}
	if !slices.Equal(x.way, before) {
		t.Fatalf("P0.4: the way %v was changed to %v", before, x.way)
	}
}

// checkInvalid checks that neither Search nor Play takes what stage.Begin refuses, whatever else they are given.
func checkInvalid(t *testing.T, q session) {
	t.Helper()
	if _, e := stage.Begin(q.b, q.roles, q.roots); e != api.ErrStageForm {
		t.Fatalf("Begin(%v) = %d", q, e)
	}
	before := q.copied()
	for _, most := range []int{1, 10, 4000, 0, 4001} {
		if r, e := probe.Search(q.b, q.roles, q.roots, most); e != api.ErrProbeForm || !sameReport(r, api.Report{}) {
			t.Fatalf("P14.2: Search(%v, %d) = %v, %d", q, most, r, e)
		}
	}
	for _, way := range [][]int{nil, {0}, {-1}, {0, 7}} {
		if s, e := probe.Play(q.b, q.roles, q.roots, way); e != api.ErrProbeForm || len(s.At)+len(s.Mail) > 0 {
			t.Fatalf("P14.1: Play(%v, %v) = %v, %d", q, way, s, e)
		}
	}
	if !q.same(before) {
		t.Fatalf("P0.4: %v was changed to %v", before, q)
	}
}
