package stage_test

import (
	"slices"
	"strings"
	"testing"

	"repartee/api"
	"repartee/sketch"
	"repartee/stage"
)

// asked is a valid stage of the tables, with its book and its roles.
type asked struct {
	b     api.Book
	roles []string
	s     api.Stage
}

func allAsked() []asked {
	var l []asked
	for _, c := range moved {
		b := sketch.Book("", c.nodes)
		b.Names, b.Roots = []string{"a", "b"}, []int{0, len(b.Nodes) - 1}
		l = append(l, asked{b, strings.Fields(c.roles), sketch.Stage(c.at, c.mail)})
	}
	return l
}

// copied is a in memory of its own.
func (a asked) copied() asked {
	return asked{sketch.Copy(a.b), slices.Clone(a.roles), sketch.CopyStage(a.s)}
}

// roomy is a copy of a with memory beyond its lists, which would count if it were read.
func (a asked) roomy() asked {
	return asked{sketch.Roomy(a.b), sketch.RoomyList(a.roles, "beyond", "a"), sketch.RoomyStage(a.s)}
}

func (a asked) same(b asked) bool {
	return sketch.Same(a.b, b.b) && slices.Equal(a.roles, b.roles) && sketch.SameStage(a.s, b.s)
}

// beyond is what stands beyond the lists of a roomy a.
func (a asked) beyond() asked {
	return asked{sketch.Beyond(a.b), sketch.BeyondList(a.roles), sketch.BeyondStage(a.s)}
}

func (a asked) spoil() {
	sketch.Spoil(a.b)
	sketch.SpoilList(a.roles, "spoiled")
	sketch.SpoilStage(a.s)
}

// answers are the moves of a stage, and the stages behind them, behind which stands the stage with which a session begins at these nodes.
func (a asked) answers(t *testing.T) ([]api.Move, []api.Stage) {
	t.Helper()
	moves := stage.Moves(a.b, a.roles, a.s)
	var stages []api.Stage
	for _, m := range moves {
		next, e := stage.Do(a.b, a.roles, a.s, m)
		if e != api.OK {
			t.Fatalf("P13.2: Do(%v, %v): %d", a, m, e)
		}
		stages = append(stages, next)
	}
	first, e := stage.Begin(a.b, a.roles, a.s.At)
	if e != api.OK {
		t.Fatalf("P13.1: Begin(%v): %d", a, e)
	}
	return moves, append(stages, first)
}

func sameStages(a, b []api.Stage) bool { return slices.EqualFunc(a, b, sketch.SameStage) }

func TestNothingBeyondAListIsReadOrWritten(t *testing.T) {
	for _, plain := range allAsked() {
		a := plain.roomy()
		before := a.beyond()
		if !check(t, a.b, a.roles, a.s) || !checkBegin(t, a.b, a.roles, a.s.At) {
			t.Errorf("P0.4: memory beyond the lists of %v was read", plain)
		}
		moves, stages := a.answers(t)
		wantMoves, wantStages := plain.answers(t)
		if !slices.Equal(moves, wantMoves) || !sameStages(stages, wantStages) || stage.Over(a.b, a.roles, a.s) != stage.Over(plain.b, plain.roles, plain.s) {
			t.Errorf("P0.4: memory beyond the lists of %v was read", plain)
		}
		if !a.beyond().same(before) {
			t.Errorf("P0.4: memory beyond the lists of %v was written", plain)
		}
	}
}

// What lacks may stand in the memory beyond, and does not count.
func TestWhatLacksIsNotReadBeyond(t *testing.T) {
	b, roles, s := sketch.Book("", "b!x>1 ."), rolesOf(2), sketch.Stage("0 1", "01:x")
	shorter := []asked{
		{b, roles[:1], s},
		{b, roles, api.Stage{At: s.At[:1], Mail: s.Mail}},
		{b, roles, api.Stage{At: s.At, Mail: s.Mail[:3]}},
		{api.Book{Nodes: b.Nodes[:1]}, roles, s},
	}
	for _, a := range shorter {
		if check(t, a.b, a.roles, a.s) {
			t.Errorf("P0.4: memory beyond the lists of %v was read", a)
		}
	}
	long := slices.Repeat([]string{"x"}, 65)
	s.Mail[1] = long[:64]
	if !check(t, b, roles, s) || len(stage.Moves(b, roles, s)) > 0 {
		t.Error("P0.4: memory beyond a queue was read")
	}
	s.Mail[1] = long[:63]
	if next := do(t, b, roles, s, sketch.Moves("0!x")...); long[63] != "x" || len(next.Mail[1]) != 64 {
		t.Error("P0.4: memory beyond a queue was written")
	}
}

func TestResultsAreNewMemory(t *testing.T) {
	for _, plain := range allAsked() {
		wantMoves, wantStages := plain.answers(t)
		for _, a := range []asked{plain.copied(), plain.roomy()} {
			moves, stages := a.answers(t)
			otherMoves, otherStages := a.answers(t)
			sketch.SpoilList(moves, api.Move{Kind: 9, Role: -7, Label: "spoiled"})
			for _, s := range stages {
				sketch.SpoilStage(s)
			}
			if !a.same(plain) {
				t.Errorf("P0.4: a result for %v shares its memory with it: %v", plain, a)
			}
			if !slices.Equal(otherMoves, wantMoves) || !sameStages(otherStages, wantStages) {
				t.Errorf("P0.4: two results for %v share memory", plain)
			}
			check(t, a.b, a.roles, a.s)
			checkBegin(t, a.b, a.roles, a.s.At)
			a.spoil()
			if !slices.Equal(otherMoves, wantMoves) || !sameStages(otherStages, wantStages) {
				t.Errorf("P0.4: the results for %v change with it", plain)
			}
		}
	}
}

// A letter that is added to one queue of a result is in no other.
func TestQueuesOfAResultShareNoMemory(t *testing.T) {
	for _, a := range allAsked() {
		_, stages := a.answers(t)
		for _, s := range stages {
			if !sketch.ApartStage(s) {
				t.Errorf("P0.4: queues of a result for %v share memory", a)
			}
		}
	}
}

// Nor do the queues if those of the stage are pieces of one list.
func TestQueuesThatArePiecesOfOneList(t *testing.T) {
	b, roles := sketch.Book("", "b!x>0 a?y>1,z>1"), rolesOf(2)
	letters := strings.Split("yzyz", "")
	s := api.Stage{At: []int{0, 1}, Mail: [][]string{letters[:1], letters[:2], letters[1:], letters}}
	want := sketch.CopyStage(s)
	if !check(t, b, roles, s) {
		t.Fatal("P13.1: a stage whose queues share memory is invalid")
	}
	for i, m := range sketch.Moves("0!x 1?y") {
		next, e := stage.Do(b, roles, s, m)
		if mail := [][]string{{"y", "z", "x"}, {"z"}}[i]; e != api.OK || !slices.Equal(next.Mail[1], mail) || !slices.Equal(next.Mail[3], want.Mail[3]) {
			t.Errorf("P13.2: Do of %v = %v, %d", m, next, e)
		}
		if !sketch.ApartStage(next) || !sketch.SameStage(s, want) {
			t.Errorf("P0.4: the stage behind %v shares memory", m)
		}
	}
}

// A stage stays as it is while those behind it go on, and those behind it do not know of each other.
func TestStagesBehindAStageAreApart(t *testing.T) {
	b, roles := sketch.Book("", "b!x>0,y>0 a?x>1,y>1"), rolesOf(2)
	s := do(t, b, roles, sketch.Stage("0 1", ""), sketch.Moves("0!x 0!x 0!x")...)
	one := do(t, b, roles, s, sketch.Moves("0!x")...)
	two := do(t, b, roles, s, sketch.Moves("0!y")...)
	three := do(t, b, roles, s, sketch.Moves("1?x 0!y")...)
	four := do(t, b, roles, s, sketch.Moves("1?x 0!x")...)
	for i, c := range []struct {
		s    api.Stage
		want string
	}{{s, "01:x,x,x"}, {one, "01:x,x,x,x"}, {two, "01:x,x,x,y"}, {three, "01:x,x,y"}, {four, "01:x,x,x"}} {
		if !sketch.SameStage(c.s, sketch.Stage("0 1", c.want)) {
			t.Errorf("P0.4: stage %d = %v, want %s", i, c.s, c.want)
		}
	}
}

// What was asked before, of the same stage or book before it was changed, does not matter.
func TestNothingIsKept(t *testing.T) {
	b, roles, s := sketch.Book("", "b!x>2 a?x>2 ."), rolesOf(2), sketch.Stage("0 1", "")
	for i, c := range []struct {
		change func()
		want   string
	}{
		{func() {}, "0!x"},
		{func() { s.Mail[1] = []string{"x"} }, "0!x 1?x"},
		{func() { s.At[0] = 2 }, "1?x"},
		{func() { s.Mail[1][0] = "y" }, ""},
		{func() { b.Nodes[1].Arms[0].Label = "y" }, "1?y"},
		{func() { roles[0] = "c" }, ""},
		{func() { b.Nodes[1].Peer = "c" }, "1?y"},
		{func() { s.At[0] = 3 }, ""},
		{func() { s.At[0] = 0 }, "0!x 1?y"},
		{func() { roles[0] = "b" }, ""},
	} {
		c.change()
		if l := stage.Moves(b, roles, s); !slices.Equal(l, sketch.Moves(c.want)) {
			t.Errorf("P0.5: after change %d the moves are %v, want %s", i, l, c.want)
		}
		check(t, b, roles, s)
		checkBegin(t, b, roles, s.At)
	}
}

func TestNilAndEmptyListsAreTheSame(t *testing.T) {
	for _, plain := range allAsked() {
		a := plain.copied()
		for i, queue := range a.s.Mail {
			a.s.Mail[i] = append([]string{}, queue...)
		}
		for i, n := range a.b.Nodes {
			a.b.Nodes[i].Arms = append([]api.Edge{}, n.Arms...)
		}
		moves, stages := a.answers(t)
		wantMoves, wantStages := plain.answers(t)
		if !slices.Equal(moves, wantMoves) || !sameStages(stages, wantStages) || stage.Over(a.b, a.roles, a.s) != stage.Over(plain.b, plain.roles, plain.s) || !stage.Same(a.s, plain.s) {
			t.Errorf("P0.4: nil and an empty list are told apart in %v", plain)
		}
	}
	for _, b := range []api.Book{{}, {Nodes: []api.Node{}, Names: []string{}, Roots: []int{}}} {
		for _, s := range []api.Stage{{}, {At: []int{}, Mail: [][]string{}}} {
			for _, roles := range [][]string{nil, {}} {
				if check(t, b, roles, s) || checkBegin(t, b, roles, s.At) {
					t.Error("P13.1: a stage of nothing is valid")
				}
			}
		}
	}
}
