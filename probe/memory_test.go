package probe_test

import (
	"slices"
	"testing"

	"repartee/api"
	"repartee/probe"
	"repartee/sketch"
)

// allAsked are the sessions of the tables, in books with names.
func allAsked() []session {
	var l []session
	for _, c := range searched {
		l = append(l, sketched(c.roles, c.nodes, c.roots))
	}
	for _, c := range played {
		l = append(l, sketched(c.roles, c.nodes, c.roots))
	}
	for i, q := range l {
		l[i].b.Names, l[i].b.Roots = []string{"a", "b"}, []int{0, len(q.b.Nodes) - 1}
	}
	return l
}

// roomy is a copy of q with memory beyond its lists, which would count if it were read.
func (q session) roomy() session {
	return session{sketch.Roomy(q.b), sketch.RoomyList(q.roles, "beyond", "a"), sketch.RoomyList(q.roots, 0, -1)}
}

// beyond is what stands beyond the lists of a roomy q.
func (q session) beyond() session {
	return session{sketch.Beyond(q.b), sketch.BeyondList(q.roles), sketch.BeyondList(q.roots)}
}

func (q session) spoil() {
	sketch.Spoil(q.b)
	sketch.SpoilList(q.roles, "spoiled")
	sketch.SpoilList(q.roots, -7)
}

// answers are the report for at most 50 stages, and the stages to which the beginnings of a way lead, as far as there is one.
func (q session) answers(t *testing.T) (api.Report, []api.Stage) {
	t.Helper()
	r, e := probe.Search(q.b, q.roles, q.roots, 50)
	if e != api.OK {
		t.Fatalf("P14.2: Search(%v) = %d", q, e)
	}
	var stages []api.Stage
	for n := range 5 {
		way := sketch.RoomyList(make([]int, n), 0, 7)
		s, e := probe.Play(q.b, q.roles, q.roots, way)
		if e == api.OK {
			stages = append(stages, s)
		}
		if beyond := sketch.BeyondList(way); !slices.Equal(beyond, []int{0, 7}) || slices.Max(append(way, 0)) > 0 {
			t.Errorf("P0.4: a way was changed to %v, and beyond it %v", way, beyond)
		}
	}
	return r, stages
}

func sameStages(x, y []api.Stage) bool { return slices.EqualFunc(x, y, sketch.SameStage) }

func spoilReport(r api.Report) {
	sketch.SpoilList(r.Way, -7)
	sketch.SpoilList(r.Long, -7)
}

func TestNothingBeyondAListIsReadOrWritten(t *testing.T) {
	for _, plain := range allAsked() {
		q := plain.roomy()
		before := q.beyond()
		report, stages := q.answers(t)
		wantReport, wantStages := plain.answers(t)
		if !sameReport(report, wantReport) || !sameStages(stages, wantStages) {
			t.Errorf("P0.4: memory beyond the lists of %v was read", plain)
		}
		check(t, q, 30, 2)
		if !q.beyond().same(before) || !q.same(plain) {
			t.Errorf("P0.4: the lists of %v or the memory beyond them were written", plain)
		}
	}
}

// What lacks may stand in the memory beyond, and does not count.
func TestWhatLacksIsNotReadBeyond(t *testing.T) {
	q := sketched("a b", "b!x>2 a?x>2 .", "0 1")
	checkInvalid(t, session{q.b, q.roles[:1], q.roots})
	checkInvalid(t, session{q.b, q.roles, q.roots[:1]})
	checkInvalid(t, session{api.Book{Nodes: q.b.Nodes[:2]}, q.roles, q.roots})
	way := []int{0, 0, 0}
	if s, e := probe.Play(q.b, q.roles, q.roots, way[:1]); e != api.OK || !sketch.SameStage(s, sketch.Stage("2 1", "01:x")) {
		t.Errorf("P0.4: memory beyond a way was read: %v, %d", s, e)
	}
}

func TestResultsAreNewMemory(t *testing.T) {
	for _, plain := range allAsked() {
		wantReport, wantStages := plain.answers(t)
		for _, q := range []session{plain.copied(), plain.roomy()} {
			report, stages := q.answers(t)
			otherReport, otherStages := q.answers(t)
			spoilReport(report)
			for _, s := range stages {
				sketch.SpoilStage(s)
			}
			if !q.same(plain) {
				t.Errorf("P0.4: a result for %v shares its memory with it: %v", plain, q)
			}
			if !sameReport(otherReport, wantReport) || !sameStages(otherStages, wantStages) {
				t.Errorf("P0.4: two results for %v share memory", plain)
			}
			check(t, q, 10, 3)
			q.spoil()
			if !sameReport(otherReport, wantReport) || !sameStages(otherStages, wantStages) {
				t.Errorf("P0.4: the results for %v change with it", plain)
			}
		}
	}
}

// A number that is written to one list of a result is in no other.
func TestListsOfAResultShareNoMemory(t *testing.T) {
	for _, q := range allAsked() {
		r, stages := q.answers(t)
		if !sketch.ApartLists([][]int{r.Way, r.Long}, func(i int) int { return i }) {
			t.Errorf("P0.4: Way and Long of %v share memory", q)
		}
		for _, s := range stages {
			if !sketch.ApartStage(s) {
				t.Errorf("P0.4: queues of a result for %v share memory", q)
			}
		}
	}
}

// What was asked before, of the same session before it was changed, does not matter.
func TestNothingIsKept(t *testing.T) {
	q := sketched("a b", "b!x>2 a?x>2 .", "0 1")
	for i, c := range []struct {
		change func()
		states int
		stuck  string
	}{
		{func() {}, 3, "no"},
		{func() { q.b.Nodes[1].Arms[0].Label = "y" }, 2, "0"},
		{func() { q.b.Nodes[0].Arms[0].Label = "y" }, 3, "no"},
		{func() { q.b.Nodes[1].Arms[0].Next = 1 }, 3, "0 0"},
		{func() { q.roots[0] = 2 }, 1, "at once"},
		{func() { q.roots[1] = 0 }, 1, "at once"},
		{func() { q.roles[0], q.roles[1] = "b", "a" }, 2, "0"},
		{func() { q.b.Nodes[0] = api.Node{} }, 1, "no"},
		{func() { q.roles = q.roles[:1]; q.roots = q.roots[1:] }, 1, "no"},
	} {
		c.change()
		want, stuck := way(c.stuck)
		r, e := probe.Search(q.b, q.roles, q.roots, 10)
		if e != api.OK || r.States != c.states || r.Stuck != stuck || !slices.Equal(r.Way, want) {
			t.Errorf("P0.5: after change %d Search = %v, %d", i, r, e)
		}
		check(t, q, 10, 2)
	}
}

func TestNilAndEmptyListsAreTheSame(t *testing.T) {
	for _, plain := range allAsked() {
		q := plain.copied()
		for i, n := range q.b.Nodes {
			q.b.Nodes[i].Arms = append([]api.Edge{}, n.Arms...)
		}
		report, stages := q.answers(t)
		wantReport, wantStages := plain.answers(t)
		if !sameReport(report, wantReport) || !sameStages(stages, wantStages) {
			t.Errorf("P0.4: nil and an empty list are told apart in %v", plain)
		}
		q.b.Names, q.b.Roots = []string{}, []int{}
		check(t, q, 10)
		for _, way := range [][]int{nil, {}} {
			if s, e := probe.Play(q.b, q.roles, q.roots, way); e != api.OK || !slices.Equal(s.At, q.roots) {
				t.Errorf("P14.1: Play without moves = %v, %d", s, e)
			}
		}
	}
	for _, b := range []api.Book{{}, {Nodes: []api.Node{}, Names: []string{}, Roots: []int{}}} {
		checkInvalid(t, session{b, nil, nil})
		checkInvalid(t, session{b, []string{}, []int{}})
	}
}
