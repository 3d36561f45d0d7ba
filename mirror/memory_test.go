package mirror_test

import (
	"testing"

	"repartee/api"
	"repartee/mirror"
	"repartee/sketch"
)

// asked is a type and a me of the tables.
type asked struct{ l, me string }

func allAsked() []asked {
	var l []asked
	for _, c := range mirrors {
		l = append(l, asked{c.l, c.me})
	}
	for _, c := range lifts {
		l = append(l, asked{c.l, c.me})
	}
	for _, c := range refusals {
		l = append(l, asked{c.l, c.me})
	}
	return l
}

func TestNothingBeyondAListIsReadOrWritten(t *testing.T) {
	for _, a := range allAsked() {
		l := sketch.RoomyLocal(typed(a.l))
		before := sketch.BeyondLocal(l)
		e, f := check(t, l, a.me)
		if wantE, wantF := check(t, typed(a.l), a.me); e != wantE || f != wantF {
			t.Errorf("P0.4: memory beyond the lists of %s was read: %d, %d", a.l, e, f)
		}
		if !sketch.SameLocal(sketch.BeyondLocal(l), before) {
			t.Errorf("P0.4: memory beyond the lists of %s was written", a.l)
		}
	}
	// The turn and the arms beyond are none.
	next, arms := sketch.RoomyLocal(typed("b!x>1 .")), sketch.RoomyLocal(typed("b!x>0"))
	next.Turns = next.Turns[:1]
	arms.Turns[0].Arms = arms.Turns[0].Arms[:0]
	for _, l := range []api.Local{next, arms, sketch.RoomyLocal(api.Local{})} {
		if e, f := check(t, l, "a"); e != api.ErrMirrorForm || f != api.ErrMirrorForm {
			t.Errorf("P0.4: memory beyond the lists of %v was read", l)
		}
	}
}

func TestResultsAreNewMemory(t *testing.T) {
	for _, a := range allAsked() {
		plain := typed(a.l)
		want, _ := simpleOf(plain, a.me)
		wantLift, _ := simpleLift(plain, a.me)
		for _, l := range []api.Local{typed(a.l), sketch.RoomyLocal(plain)} {
			m, _ := mirror.Of(l, a.me)
			other, _ := mirror.Of(l, a.me)
			p, _ := mirror.Lift(l, a.me)
			otherLift, _ := mirror.Lift(l, a.me)
			sketch.SpoilLocal(m)
			sketch.SpoilProtocol(p)
			if !sketch.SameLocal(l, plain) {
				t.Errorf("P0.4: a result for %s shares its memory with the type", a.l)
			}
			if !sketch.SameLocal(other, want) || !sketch.SameProtocol(otherLift, wantLift) {
				t.Errorf("P0.4: two results for %s share memory", a.l)
			}
			check(t, l, a.me)
			sketch.SpoilLocal(l)
			if !sketch.SameLocal(other, want) || !sketch.SameProtocol(otherLift, wantLift) {
				t.Errorf("P0.4: the results for %s change with the type", a.l)
			}
		}
	}
}

// An arm that is added to one turn or point, or changed in it, is in no other.
func TestListsOfAResultShareNoMemory(t *testing.T) {
	for _, a := range allAsked() {
		m, _ := mirror.Of(typed(a.l), a.me)
		p, _ := mirror.Lift(typed(a.l), a.me)
		if !sketch.ApartLocal(m) || !sketch.ApartProtocol(p) {
			t.Errorf("P0.4: lists of a result for %s share memory", a.l)
		}
	}
}

// What was asked before, of the same type before it was changed or for another me, does not matter.
func TestNothingIsKept(t *testing.T) {
	l := typed("b!x>1 b?y>0")
	for _, c := range []struct {
		change func()
		me     string
		want   api.Errno
	}{
		{func() {}, "me", api.OK},
		{func() { l.Turns[1].Peer = "c" }, "me", api.ErrMirrorPeers},
		{func() { l.Turns[0].Peer = "c" }, "b", api.OK},
		{func() {}, "c", api.ErrMirrorPeers},
		{func() { l.Turns[0].Arms[0].Next = 2 }, "b", api.ErrMirrorForm},
		{func() { l.Turns[0].Arms[0].Next = 0 }, "B", api.ErrMirrorForm},
		{func() { l.Turns[0].Kind, l.Name = api.Recv, "" }, "a", api.OK},
		{func() { l.Turns[0] = api.Turn{} }, "c", api.OK},
	} {
		c.change()
		if e, f := check(t, l, c.me); e != c.want || f != c.want {
			t.Errorf("P0.5: %v for %s: %d, %d, want %d", l, c.me, e, f, c.want)
		}
	}
}

func TestNilAndEmptyListsAreTheSame(t *testing.T) {
	for _, a := range allAsked() {
		l := typed(a.l)
		l.Turns = append([]api.Turn{}, l.Turns...)
		for i, x := range l.Turns {
			l.Turns[i].Arms = append([]api.Arm{}, x.Arms...)
		}
		e, f := check(t, l, a.me)
		if wantE, wantF := check(t, typed(a.l), a.me); e != wantE || f != wantF {
			t.Errorf("P0.4: nil and an empty list are told apart in %s: %d, %d", a.l, e, f)
		}
	}
}
