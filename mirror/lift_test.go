package mirror_test

import (
	"slices"
	"strings"
	"testing"

	"repartee/api"
	"repartee/mirror"
	"repartee/sketch"
	"repartee/turns"
)

// lifts are types with what Lift says of them.
var lifts = []struct{ l, me, roles, points string }{
	// The example of the chapter, and its mirror.
	{"b!x:1>1 .", "a", "a b", "a-b!x:1>1 ."},
	{"a?x:1>1 .", "b", "b a", "a-b!x:1>1 ."},
	// No peer: peer is a name of its own, if me is not peer; turns that are not reached are no matter.
	{".", "a", "a peer", "."},
	{".", "peer", "peer peer2", "."},
	{".", "peer2", "peer2 peer", "."},
	{".", "pee", "pee peer", "."},
	{".", "pair", "pair peer", "."},
	{". . .", "a", "a peer", "."},
	{". b!x>0", "a", "a peer", "."},
	{". peer!x>0", "a", "a peer", "."},
	{". peer!x>0", "peer", "peer peer2", "."},
	{". b!x>0 c?x>1", "b", "b peer", "."},
	// A peer keeps its name, whatever it is, and me is the first role.
	{"peer!x>0", "a", "a peer", "a-peer!x>0"},
	{"peer2!x>0", "peer", "peer peer2", "peer-peer2!x>0"},
	{"peer?x>0", "peer2", "peer2 peer", "peer-peer2!x>0"},
	{"a!x>0", "z", "z a", "z-a!x>0"},
	{"z!x>0", "a", "a z", "a-z!x>0"},
	{"abcdefghijkl?x>0", "abcdefghijk", "abcdefghijk abcdefghijkl", "abcdefghijkl-abcdefghijk!x>0"},
	// Both Kinds.
	{"b!x>1 b?y>0", "me", "me b", "me-b!x>1 b-me!y>0"},
	{"b?x>1 b?y>2 b!z>0", "me", "me b", "b-me!x>1 b-me!y>2 me-b!z>0"},
	// Several Ends stay several points.
	{"b!x>1,y>2 . .", "a", "a b", "a-b!x>1,y>2 . ."},
	{"b?x>1,y>2,z>3 . b!w>4 . .", "a", "a b", "b-a!x>1,y>2,z>3 . a-b!w>4 . ."},
	// Trim leaves turns out, moves them, and sorts arms.
	{"b!y>2,x>3 c?q>0 b?k:1>0 .", "me", "me b", "me-b!x>1,y>2 . b-me!k:1>0"},
	{"b?x>3 c!x>0 b!x>0 b!x>2", "a", "a b", "b-a!x>1 a-b!x>2 a-b!x>0"},
	{"b!x>0 me!x>0", "me", "me b", "me-b!x>0"},
	// What the arms carry stays, also ends.
	{"b?x:5p.a>1,y:5rest>0 .", "a", "a b", "b-a!x:5p.a>1,y:5rest>0 ."},
	{"b!a>1,b:1>1,c:2>1,d:3>1,e:4>1,f:5b.b>1 .", "a", "a b", "a-b!a>1,b:1>1,c:2>1,d:3>1,e:4>1,f:5b.b>1 ."},
}

func TestLift(t *testing.T) {
	for _, c := range lifts {
		want := sketch.Protocol("some", c.roles, c.points)
		if got, e := mirror.Lift(typed(c.l), c.me); e != api.OK || !sketch.SameProtocol(got, want) {
			t.Errorf("P12.2: Lift of %s for %s = %v, %d, want %v", c.l, c.me, got, e, want)
		}
		check(t, typed(c.l), c.me)
	}
}

func TestNamesOfLiftedProtocols(t *testing.T) {
	for i, name := range typeNames {
		want := "pair"
		if i < goodTypeNames {
			want = name
		}
		for _, text := range []string{".", "b!x>1 b?y>0", "b!x>2 . ."} {
			if p, e := mirror.Lift(sketch.Local(name, text), "me"); e != api.OK || p.Name != want {
				t.Errorf("P12.2: the protocol of a type with the Name %q has the Name %q, %d", name, p.Name, e)
			}
		}
	}
	for _, name := range append(sketch.Names(), sketch.NoNames()...) {
		check(t, sketch.Local(name, "b?x>1 ."), "a")
		check(t, sketch.Local(name, "."), "peer")
	}
}

func TestLiftOfAsManyPointsAsMayBe(t *testing.T) {
	for n := 1; n <= 40; n++ {
		for beyond := range 41 - n {
			want := api.OK
			if n > 24 {
				want = api.ErrMirrorLarge
			}
			l := cycle(n, beyond)
			p, e := mirror.Lift(l, "a")
			if e != want || e == api.OK && len(p.Points) != n {
				t.Errorf("P12.2: Lift of %d turns and %d that are not reached: %d points, %d", n, beyond, len(p.Points), e)
			}
			check(t, l, "a")
		}
	}
}

// ends is a type of a turn with six arms, of which each leads to a turn with six arms or to an End, so that there are n turns in all, most of them Ends.
func ends(n int) api.Local {
	l := api.Local{Turns: make([]api.Turn, n)}
	next := 1
	for i := 0; next < n; i++ {
		l.Turns[i] = api.Turn{Kind: 1 + i%2, Peer: "b"}
		for _, label := range strings.Fields("f e d c b a") {
			if next < n {
				l.Turns[i].Arms = append(l.Turns[i].Arms, api.Arm{Label: label, Next: next})
				next++
			}
		}
	}
	return l
}

// In a protocol as in a type, each End counts, though they are one turn of a projection.
func TestLiftOfManyEnds(t *testing.T) {
	for n := 1; n <= 40; n++ {
		if len(turns.Trim(ends(n)).Turns) != n {
			t.Fatalf("not all of %d turns are reached: %v", n, ends(n))
		}
		want := api.OK
		if n > 24 {
			want = api.ErrMirrorLarge
		}
		if e, f := check(t, ends(n), "a"); e != api.OK || f != want {
			t.Errorf("P12.2: of %d turns: %d, %d", n, e, f)
		}
	}
}

// Too many turns come behind the other errors.
func TestLiftOfTooManyTurnsAndOtherFaults(t *testing.T) {
	for _, n := range []int{24, 25, 40} {
		want := api.ErrMirrorLarge
		if n == 24 {
			want = api.OK
		}
		good := cycle(n, 0)
		peers, unreached := cycle(n-1, 0), cycle(n, 0)
		peers.Turns[n-2].Arms[0].Next = n - 1
		peers.Turns = append(peers.Turns, sketch.Local("", "c!x>0").Turns...)
		unreached.Turns = append(unreached.Turns, api.Turn{Kind: api.Send})
		for _, c := range []struct {
			l    api.Local
			me   string
			want api.Errno
		}{
			{good, "a", want},
			{good, "b", api.ErrMirrorPeers},
			{peers, "a", api.ErrMirrorPeers},
			{peers, "b", api.ErrMirrorPeers},
			{peers, "c", api.ErrMirrorPeers},
			{good, "", api.ErrMirrorForm},
			{good, "list", api.ErrMirrorForm},
			{peers, "B", api.ErrMirrorForm},
			{unreached, "a", api.ErrMirrorForm},
			{unreached, "b", api.ErrMirrorForm},
			{cycle(41, 0), "b", api.ErrMirrorForm},
			{cycle(n, 41-n), "b", api.ErrMirrorForm},
		} {
			if p, e := mirror.Lift(c.l, c.me); e != c.want || e != api.OK && !sketch.SameProtocol(p, api.Protocol{}) {
				t.Errorf("P12.2: Lift of %v for %q = %v, %d, want %d", c.l, c.me, p, e, c.want)
			}
			check(t, c.l, c.me)
		}
	}
}

func TestRolesOfLiftedProtocols(t *testing.T) {
	for _, me := range sketch.Names() {
		for _, peer := range append(sketch.Names(), "peer", "peer2", "pair") {
			p, e := mirror.Lift(sketch.Local("", peer+"!x>0"), me)
			if want := []string{me, peer}; me != peer && (e != api.OK || !slices.Equal(p.Roles, want)) {
				t.Errorf("P12.2: the roles of Lift for %s with the peer %s: %q, %d", me, peer, p.Roles, e)
			}
		}
	}
}
