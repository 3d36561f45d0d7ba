package mirror_test

import (
	"math/rand"
	"slices"
	"testing"

	"repartee/api"
	"repartee/mirror"
	"repartee/project"
	"repartee/sketch"
	"repartee/turns"
)

// smallTypes are all types of n turns that are End or have one of the peers and one or two arms with the labels x and y, in either order.
func smallTypes(n int, peers ...string) []api.Local {
	choices := []api.Turn{{}}
	for _, kind := range []int{api.Send, api.Recv} {
		for _, peer := range peers {
			put := func(arms ...api.Arm) {
				choices = append(choices, api.Turn{Kind: kind, Peer: peer, Arms: arms})
			}
			for i := range n {
				put(api.Arm{Label: "x", Next: i})
				for j := range n {
					put(api.Arm{Label: "x", Next: i}, api.Arm{Label: "y", Next: j})
					put(api.Arm{Label: "y", Next: i}, api.Arm{Label: "x", Next: j})
				}
			}
		}
	}
	all := []api.Local{{Name: "small"}}
	for range n {
		var longer []api.Local
		for _, l := range all {
			for _, x := range choices {
				longer = append(longer, api.Local{Name: l.Name, Turns: append(slices.Clone(l.Turns), x)})
			}
		}
		all = longer
	}
	return all
}

func TestAllSmallTypes(t *testing.T) {
	for _, l := range slices.Concat(smallTypes(1, "b", "c"), smallTypes(2, "b", "c")) {
		for _, me := range []string{"a", "b", "c", "end"} {
			check(t, l, me)
		}
	}
	for i, l := range smallTypes(3, "b") {
		if i%5 == 0 {
			check(t, l, "a")
		}
	}
}

// random draws a type of n turns. Its peer is b, but for a few turns of some of the types.
func random(r *rand.Rand, n int) api.Local {
	l := api.Local{Name: []string{"some", "", "p.a", "end", "pair"}[r.Intn(5)], Turns: make([]api.Turn, n)}
	others := []int{0, 0, 0, 1, 4}[r.Intn(5)]
	for i := range l.Turns {
		if r.Intn(6) == 0 {
			continue
		}
		x := api.Turn{Kind: 1 + r.Intn(2), Peer: "b"}
		if r.Intn(8) < others {
			x.Peer = []string{"a", "c", "b2"}[r.Intn(3)]
		}
		for _, k := range r.Perm(6)[:1+r.Intn(1+r.Intn(6))] {
			a := api.Arm{Label: []string{"a", "b", "x", "y", "a2", "aa"}[k], Carries: api.Carries{Kind: r.Intn(6)}, Next: r.Intn(n)}
			if a.Carries.Kind == api.Chan {
				a.Carries.Name = []string{"rest", "p.a", "b"}[r.Intn(3)]
			}
			x.Arms = append(x.Arms, a)
		}
		l.Turns[i] = x
	}
	return l
}

func TestRandomTypes(t *testing.T) {
	r := rand.New(rand.NewSource(12))
	found := map[[2]api.Errno]int{}
	for i := range 6000 {
		l := random(r, 1+i%42)
		e, f := check(t, l, []string{"a", "b", "c", "peer", "me2", "A"}[r.Intn(6)])
		found[[2]api.Errno{e, f}]++
	}
	for _, want := range [][2]api.Errno{{}, {0, 1202}, {1200, 1200}, {1201, 1201}} {
		if found[want] < 100 {
			t.Errorf("too few of the random types have the errors %v: %v", want, found)
		}
	}
	if len(found) > 4 {
		t.Error("errors of Of and Lift that do not go together:", found)
	}
}

// way draws a way along the arms of a valid type, sometimes with a label too many.
func way(r *rand.Rand, l api.Local) []string {
	var labels []string
	at := 0
	for range r.Intn(12) {
		arms := l.Turns[at].Arms
		if len(arms) == 0 {
			break
		}
		a := arms[r.Intn(len(arms))]
		labels = append(labels, a.Label)
		at = a.Next
	}
	if r.Intn(3) == 0 {
		labels = append(labels, "b")
	}
	return labels
}

// The type, its mirror and both projections have the same walks, which lead to turns that do the same on one side, and the opposite on the other.
func TestWalksOfBothSides(t *testing.T) {
	r := rand.New(rand.NewSource(13))
	opposite := map[int]int{api.End: api.End, api.Send: api.Recv, api.Recv: api.Send}
	walks := 0
	for i := range 3000 {
		l := random(r, 1+i%api.MaxPoints)
		m, e := mirror.Of(l, "me")
		if e != api.OK {
			continue
		}
		p, _ := mirror.Lift(l, "me")
		own, _ := project.Role(p, "me")
		other, _ := project.Role(p, p.Roles[1])
		for range 8 {
			labels := way(r, l)
			at, is := turns.Walk(l, labels)
			one, is1 := turns.Walk(own, labels)
			two, is2 := turns.Walk(other, labels)
			three, is3 := turns.Walk(m, labels)
			if is1 != is || is2 != is || is3 != is {
				t.Fatalf("P12.3: the walk %q of %v: %v, but %v, %v and %v", labels, l, is, is1, is2, is3)
			}
			kind := l.Turns[at].Kind
			if is && (own.Turns[one].Kind != kind || other.Turns[two].Kind != opposite[kind] || m.Turns[three].Kind != opposite[kind]) {
				t.Fatalf("P12.3: the turns behind the walk %q of %v", labels, l)
			}
			walks++
		}
	}
	if walks < 5000 {
		t.Error("too few walks:", walks)
	}
}

// Turns and arms in another order, and turns more that are not reached, make no difference.
func TestTheOrderOfTurnsAndArmsIsNoMatter(t *testing.T) {
	r := rand.New(rand.NewSource(14))
	for i := range 2000 {
		l := random(r, 1+i%api.MaxTurns)
		shuffled := reordered(r, l)
		a, e := mirror.Of(l, "a")
		b, f := mirror.Of(shuffled, "a")
		if e != f || !sketch.SameLocal(a, b) {
			t.Fatalf("P12.1: the mirrors of %v and %v: %v, %d and %v, %d", l, shuffled, a, e, b, f)
		}
		p, e := mirror.Lift(l, "a")
		q, f := mirror.Lift(shuffled, "a")
		if e != f || !sketch.SameProtocol(p, q) {
			t.Fatalf("P12.2: the protocols of %v and %v: %v, %d and %v, %d", l, shuffled, p, e, q, f)
		}
	}
}

// reordered is l with its turns behind the first in another order, and its arms too, and with as many turns more as may be, which are not reached.
func reordered(r *rand.Rand, l api.Local) api.Local {
	to := []int{0}
	for _, k := range r.Perm(api.MaxTurns - 1) {
		to = append(to, k+1)
	}
	s := api.Local{Name: l.Name, Turns: make([]api.Turn, api.MaxTurns)}
	for _, at := range to[len(l.Turns):] {
		s.Turns[at] = sketch.Local("", "a!x>0,y>1").Turns[0]
	}
	for i, x := range l.Turns {
		arms := x.Arms
		x.Arms = nil
		for _, k := range r.Perm(len(arms)) {
			a := arms[k]
			a.Next = to[a.Next]
			x.Arms = append(x.Arms, a)
		}
		s.Turns[to[i]] = x
	}
	return s
}
