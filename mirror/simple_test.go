package mirror_test

import (
	"fmt"
	"slices"
	"strings"
	"testing"

	"repartee/api"
	"repartee/globe"
	"repartee/mirror"
	"repartee/names"
	"repartee/project"
	"repartee/sketch"
	"repartee/turns"
)

// typed reads a local type with the Name some.
func typed(text string) api.Local { return sketch.Local("some", text) }

// armsText writes arms as package sketch reads them.
func armsText(arms []api.Arm) string {
	var l []string
	for _, a := range arms {
		l = append(l, fmt.Sprintf("%s:%d%s>%d", a.Label, a.Carries.Kind, a.Carries.Name, a.Next))
	}
	return strings.Join(l, ",")
}

// rewritten writes the turns of the Trim of a valid type anew: what send and receive say of the peer stands for a Send and a Recv.
func rewritten(l api.Local, send, receive func(peer string) string) string {
	var words []string
	for _, x := range turns.Trim(l).Turns {
		switch x.Kind {
		case 0:
			words = append(words, ".")
		case 1:
			words = append(words, send(x.Peer)+armsText(x.Arms))
		case 2:
			words = append(words, receive(x.Peer)+armsText(x.Arms))
		}
	}
	return strings.Join(words, " ")
}

// simplePeers are the peers of the turns that are reached in a valid type, once for each turn.
func simplePeers(l api.Local) []string {
	var all []string
	for _, x := range turns.Trim(l).Turns {
		if x.Peer != "" {
			all = append(all, x.Peer)
		}
	}
	return all
}

// simpleFault tells which error Of returns.
func simpleFault(l api.Local, me string) api.Errno {
	if !turns.May(l) || !names.May(me) {
		return 1200
	}
	for _, peer := range simplePeers(l) {
		if peer != simplePeers(l)[0] || peer == me {
			return 1201
		}
	}
	return 0
}

// simpleOf tells what P12.1 says of l and me: in its text, the signs of Send and Recv change places.
func simpleOf(l api.Local, me string) (api.Local, api.Errno) {
	if e := simpleFault(l, me); e != 0 {
		return api.Local{}, e
	}
	return sketch.Local(l.Name, rewritten(l, func(string) string { return me + "?" }, func(string) string { return me + "!" })), 0
}

// simpleLift tells what P12.2 says of l and me.
func simpleLift(l api.Local, me string) (api.Protocol, api.Errno) {
	if e := simpleFault(l, me); e != 0 {
		return api.Protocol{}, e
	}
	if len(turns.Trim(l).Turns) > 24 {
		return api.Protocol{}, 1202
	}
	name, other := "pair", "peer"
	if names.May(l.Name) {
		name = l.Name
	}
	if me == "peer" {
		other = "peer2"
	}
	for _, peer := range simplePeers(l) {
		other = peer
	}
	points := rewritten(l, func(peer string) string { return me + "-" + peer + "!" }, func(peer string) string { return peer + "-" + me + "!" })
	return sketch.Protocol(name, me+" "+other, points), 0
}

// check holds what Of and Lift say of l and me against the simple functions, twice, and checks what follows, and that l stays as it is. It returns both errors.
func check(t *testing.T, l api.Local, me string) (api.Errno, api.Errno) {
	t.Helper()
	before := sketch.CopyLocal(l)
	want, wantErr := simpleOf(l, me)
	wantLift, wantLiftErr := simpleLift(l, me)
	for range 2 {
		if got, e := mirror.Of(l, me); e != wantErr || !sketch.SameLocal(got, want) {
			t.Fatalf("P12.1: Of(%v, %q) = %v, %d, want %v, %d", l, me, got, e, want, wantErr)
		}
		if got, e := mirror.Lift(l, me); e != wantLiftErr || !sketch.SameProtocol(got, wantLift) {
			t.Fatalf("P12.2: Lift(%v, %q) = %v, %d, want %v, %d", l, me, got, e, wantLift, wantLiftErr)
		}
	}
	if !sketch.SameLocal(l, before) {
		t.Fatalf("P0.4: %v was changed to %v", before, l)
	}
	if wantErr == api.OK {
		checkMirror(t, l, me)
	}
	if wantLiftErr == api.OK {
		checkLifted(t, l, me)
	}
	return wantErr, wantLiftErr
}

// checkMirror checks what P12.3 says of the mirror of l, if there is one.
func checkMirror(t *testing.T, l api.Local, me string) {
	t.Helper()
	m, _ := mirror.Of(l, me)
	if !turns.May(m) || !sketch.SameLocal(turns.Trim(m), m) {
		t.Fatalf("P12.1: the mirror of %v for %s is not valid, or not its own Trim: %v", l, me, m)
	}
	// For a type without a peer, its side is anyone's.
	sides := append(simplePeers(l), "peer", "nobody", me)
	if len(sides) > 3 {
		sides = sides[:1]
	}
	for _, peer := range sides {
		if back, e := mirror.Of(m, peer); e != api.OK || !sketch.SameLocal(back, turns.Trim(l)) {
			t.Fatalf("P12.3: the mirror of the mirror %v of %v, taken by %s: %v, %d", m, l, peer, back, e)
		}
	}
}

// checkLifted checks what P12.3 says of the projections of the lifted protocol, if there is one.
func checkLifted(t *testing.T, l api.Local, me string) {
	t.Helper()
	p, _ := mirror.Lift(l, me)
	if !globe.May(p) || !sketch.SameProtocol(globe.Trim(p), p) || len(p.Roles) != 2 {
		t.Fatalf("P12.2: the protocol of %v for %s is not valid, or not its own Trim: %v", l, me, p)
	}
	all, _, e := project.All(p)
	if e != api.OK {
		t.Fatalf("P12.3: the protocol %v of %v cannot be projected: %d", p, l, e)
	}
	m, _ := mirror.Of(l, me)
	for i, side := range []api.Local{turns.Trim(l), m} {
		checkSameWalks(t, side, all[i])
		if want := joined(side); !sketch.SameLocal(api.Local{Turns: all[i].Turns}, want) {
			t.Fatalf("P12.3: the projection of %v to %s is %v, and not, with its Ends as one turn, %v", p, p.Roles[i], all[i], want)
		}
	}
}

// joined is a Trim without its Name and with all its Ends as one turn.
func joined(l api.Local) api.Local {
	isEnd := func(x api.Turn) bool { return x.Kind == api.End }
	j := sketch.CopyLocal(l)
	j.Name = ""
	for _, x := range j.Turns {
		for i, a := range x.Arms {
			if isEnd(l.Turns[a.Next]) {
				x.Arms[i].Next = slices.IndexFunc(l.Turns, isEnd)
			}
		}
	}
	return turns.Trim(j)
}

// checkSameWalks goes along all walks of two Trims side by side: wherever a walk leads, both do the same there.
func checkSameWalks(t *testing.T, a, b api.Local) {
	t.Helper()
	met := map[[2]int]bool{{}: true}
	todo := [][2]int{{}}
	for i := 0; i < len(todo); i++ {
		x, y := a.Turns[todo[i][0]], b.Turns[todo[i][1]]
		if x.Kind != y.Kind || x.Peer != y.Peer || len(x.Arms) != len(y.Arms) {
			t.Fatalf("P12.3: turns %v of %v and %v", todo[i], a, b)
		}
		for k := range x.Arms {
			next := [2]int{x.Arms[k].Next, y.Arms[k].Next}
			if x.Arms[k].Label != y.Arms[k].Label || x.Arms[k].Carries != y.Arms[k].Carries {
				t.Fatalf("P12.3: turns %v of %v and %v", todo[i], a, b)
			}
			if !met[next] {
				met[next] = true
				todo = append(todo, next)
			}
		}
	}
}
