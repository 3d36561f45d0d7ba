package mirror_test

import (
	"strconv"
	"strings"
	"testing"

	"repartee/api"
	"repartee/mirror"
	"repartee/sketch"
	"repartee/turns"
)

// mirrors are types with what Of says of them.
var mirrors = []struct{ l, me, want string }{
	// The example of the chapter, and the way back.
	{"b!x:1>1 .", "a", "a?x:1>1 ."},
	{"a?x:1>1 .", "b", "b!x:1>1 ."},
	// An End alone has no peer, whoever me is; so has an End with turns that are not reached.
	{".", "a", "."},
	{".", "peer", "."},
	{". .", "a", "."},
	{". a!x>0 b?x>1", "a", "."},
	// Cycles of one turn, of two and of three.
	{"b!x>0", "me", "me?x>0"},
	{"b?x>0", "me", "me!x>0"},
	{"b!x>1 b?y>0", "me", "me?x>1 me!y>0"},
	{"b?x>1 b?y>2 b!z>0", "me", "me!x>1 me!y>2 me?z>0"},
	// Turns with the same arms.
	{"b!x>1 b!x>1", "me", "me?x>1 me?x>1"},
	{"b!x>1,y>2 b?x>1,y>2 b?x>1,y>2", "me", "me?x>1,y>2 me!x>1,y>2 me!x>1,y>2"},
	// Several Ends stay several turns.
	{"b!x>1,y>2 . .", "a", "a?x>1,y>2 . ."},
	{"b?x>1,y>2,z>3 . b!w>4 . .", "a", "a!x>1,y>2,z>3 . a?w>4 . ."},
	// Trim leaves turns out, moves them, and sorts arms.
	{"b!y>2,x>3 c?q>0 b?k:1>0 .", "me", "me?x>1,y>2 . me!k:1>0"},
	{"b?x>3 c!x>0 b!x>0 b!x>2", "a", "a!x>1 a?x>2 a?x>0"},
	{"b!c>1,b>2,a>3 . . .", "a", "a?a>1,b>2,c>3 . . ."},
	{"b!x>0 . b!y>2", "a", "a?x>0"},
	{"b?x9>0,x10>1,x>1 .", "a", "a!x>1,x10>1,x9>0 ."},
	// A second peer, or me, only in a turn that is not reached.
	{"b!x>0 c!x>0", "me", "me?x>0"},
	{"b!x>2 c!x>0 .", "c", "c?x>1 ."},
	{"b!x>0 me!x>0", "me", "me?x>0"},
	{"b?x>0 c?y>2 d?z>1", "d", "d!x>0"},
	// What the arms carry stays, also ends: what is sent to one side is what the other receives.
	{"b!x:5rest>0", "a", "a?x:5rest>0"},
	{"b?x:5p.a>1,y:5p.b>0 .", "a", "a!x:5p.a>1,y:5p.b>0 ."},
	{"b!a>1,b:1>1,c:2>1,d:3>1,e:4>1,f:5b.b>1 .", "a", "a?a>1,b:1>1,c:2>1,d:3>1,e:4>1,f:5b.b>1 ."},
	// Names of all kinds: labels that are the peer or me, and peers that begin alike.
	{"b!b>1 b?me>0", "me", "me?b>1 me!me>0"},
	{"b!x>1 .", "bb", "bb?x>1 ."},
	{"bb?x>1 .", "b", "b!x>1 ."},
	{"peer!x>0", "pair", "pair?x>0"},
	{"b!x>1 .", "abcdefghijkl", "abcdefghijkl?x>1 ."},
	{"abcdefghijkl?x>1 .", "abcdefghijk", "abcdefghijk!x>1 ."},
}

func TestOf(t *testing.T) {
	for _, c := range mirrors {
		if got, e := mirror.Of(typed(c.l), c.me); e != api.OK || !sketch.SameLocal(got, typed(c.want)) {
			t.Errorf("P12.1: Of %s for %s = %v, %d, want %s", c.l, c.me, got, e, c.want)
		}
		check(t, typed(c.l), c.me)
	}
}

// refusals are types of which there is no mirror for me, and so no protocol.
var refusals = []struct {
	l, me string
	want  api.Errno
}{
	// A type that is not valid: where the turn is reached, and where it is not.
	{"", "a", api.ErrMirrorForm},
	{"b!x>1", "a", api.ErrMirrorForm},
	{"b!x>-1", "a", api.ErrMirrorForm},
	{"b!x>0,x>0", "a", api.ErrMirrorForm},
	{"B!x>0", "a", api.ErrMirrorForm},
	{"!x>0", "a", api.ErrMirrorForm},
	{"end!x>0", "a", api.ErrMirrorForm},
	{"b!X>0", "a", api.ErrMirrorForm},
	{"b!x:6>0", "a", api.ErrMirrorForm},
	{"b!x:5>0", "a", api.ErrMirrorForm},
	{"b!x:5p.a.b>0", "a", api.ErrMirrorForm},
	{"b!a>0,b>0,c>0,d>0,e>0,f>0,g>0", "a", api.ErrMirrorForm},
	{"b!", "a", api.ErrMirrorForm},
	{"b!x>0 b!x>2", "a", api.ErrMirrorForm},
	{". b!", "a", api.ErrMirrorForm},
	// A me that is no name, also for an End alone.
	{"b!x>0", "", api.ErrMirrorForm},
	{"b!x>0", "end", api.ErrMirrorForm},
	{"b!x>0", "abcdefghijklm", api.ErrMirrorForm},
	{"b!x>0", "A", api.ErrMirrorForm},
	{"b!x>0", "mE", api.ErrMirrorForm},
	{"b!x>0", "p.a", api.ErrMirrorForm},
	{"b!x>0", "b ", api.ErrMirrorForm},
	{".", "", api.ErrMirrorForm},
	{".", "proc", api.ErrMirrorForm},
	// Two peers, in the first two turns, behind others, and in one Kind or both; or more.
	{"b!x>1 c!x>0", "a", api.ErrMirrorPeers},
	{"b!x>1 c?x>0", "a", api.ErrMirrorPeers},
	{"b?x>1 c?x>0", "a", api.ErrMirrorPeers},
	{"b?x>1,y>2 b?x>0 c!x>0", "a", api.ErrMirrorPeers},
	{"b?x>2 . b!x>3 b?x>4 c!x>0", "a", api.ErrMirrorPeers},
	{"b!x>1 bb!x>0", "a", api.ErrMirrorPeers},
	{"b!x>1 c?x>2 d!x>0", "a", api.ErrMirrorPeers},
	// The peer is me: in each Kind, and behind an arm.
	{"b!x>0", "b", api.ErrMirrorPeers},
	{"b?x>0", "b", api.ErrMirrorPeers},
	{"b?x>1 .", "b", api.ErrMirrorPeers},
	{"abcdefghijkl!x>0", "abcdefghijkl", api.ErrMirrorPeers},
	{"peer!x>0", "peer", api.ErrMirrorPeers},
	{"b!x>0 c!x>1", "b", api.ErrMirrorPeers},
	// Two peers of which one is me, the lesser one or the greater one.
	{"b!x>1 c!x>0", "b", api.ErrMirrorPeers},
	{"b!x>1 c!x>0", "c", api.ErrMirrorPeers},
	// Two errors at once: the type, or me, comes ahead of the peers.
	{"b!x>1 c!x>2", "a", api.ErrMirrorForm},
	{"b!x>9", "b", api.ErrMirrorForm},
	{"b!x>0 b!X>0", "b", api.ErrMirrorForm},
	{"b!x>1 c!x>0 .", "", api.ErrMirrorForm},
	{"b!x>1 c!x>0", "to", api.ErrMirrorForm},
	{"b!x>1 c!x>9", "B", api.ErrMirrorForm},
	{"B!x>0", "B", api.ErrMirrorForm},
	{"end!x>0", "end", api.ErrMirrorForm},
	{"", "", api.ErrMirrorForm},
}

func TestRefusals(t *testing.T) {
	for _, c := range refusals {
		if got, e := mirror.Of(typed(c.l), c.me); e != c.want || !sketch.SameLocal(got, api.Local{}) {
			t.Errorf("P12.1: Of %q for %q = %v, %d, want %d", c.l, c.me, got, e, c.want)
		}
		if got, e := mirror.Lift(typed(c.l), c.me); e != c.want || !sketch.SameProtocol(got, api.Protocol{}) {
			t.Errorf("P12.2: Lift %q for %q = %v, %d, want %d", c.l, c.me, got, e, c.want)
		}
		check(t, typed(c.l), c.me)
	}
	if _, e := mirror.Of(api.Local{}, "me"); e != api.ErrMirrorForm {
		t.Error("P12.1: Of the zero type:", e)
	}
	if _, e := mirror.Lift(api.Local{}, "me"); e != api.ErrMirrorForm {
		t.Error("P12.2: Lift of the zero type:", e)
	}
}

func TestWhoMeIs(t *testing.T) {
	for _, l := range []api.Local{typed("."), typed("q!x>1 q?y>0,z>2 ."), typed("q!x>1 r?y>0,z>2 .")} {
		two := len(turns.Peers(l)) > 1
		for _, me := range sketch.Names() {
			if e, f := check(t, l, me); (e == api.ErrMirrorPeers) != two || (e == api.OK) == two || f != e {
				t.Errorf("P12.1: for %q: %d, %d", me, e, f)
			}
		}
		for _, me := range sketch.NoNames() {
			if e, f := check(t, l, me); e != api.ErrMirrorForm || f != api.ErrMirrorForm {
				t.Errorf("P12.1: for %q: %d, %d", me, e, f)
			}
		}
	}
	for _, peer := range sketch.Names() {
		l := sketch.Local("", peer+"?x>1 "+peer+"!y>0")
		for _, me := range sketch.Names() {
			if e, _ := check(t, l, me); (e == api.ErrMirrorPeers) != (me == peer) {
				t.Errorf("P12.1: of a type with the peer %s for %s: %d", peer, me, e)
			}
		}
	}
}

// typeNames are names of types; the first ones are names, of a protocol too.
var typeNames = []string{"rest", "pair", "p", "a", "peer", "end2", "abcdefghijkl", "", "p.a", "pair.a", "end", "protocol", "A", "p ", "NOT A NAME", "abcdefghijklm", "\x00\xff", strings.Repeat("p", 1000)}

const goodTypeNames = 7

func TestNamesAreKept(t *testing.T) {
	for _, name := range typeNames {
		for _, text := range []string{".", "b!x>1 b?y>0", "b!x>2 . ."} {
			l := sketch.Local(name, text)
			if m, e := mirror.Of(l, "me"); e != api.OK || m.Name != name {
				t.Errorf("P12.1: the mirror of a type with the Name %q has the Name %q, %d", name, m.Name, e)
			}
			check(t, l, "me")
		}
		if m, e := mirror.Of(sketch.Local(name, "b!x>1"), "me"); e != api.ErrMirrorForm || m.Name != "" {
			t.Errorf("P0.3: beside an error is the Name %q", m.Name)
		}
	}
}

// cycle is a type of n turns, Send and Recv by turns, and behind them others that are not reached.
func cycle(n, beyond int) api.Local {
	var text []string
	for i := range n {
		text = append(text, []string{"b!x>", "b?y>"}[i%2]+strconv.Itoa((i+1)%n))
	}
	for range beyond {
		text = append(text, "b!y>0,x>0")
	}
	return typed(strings.Join(text, " "))
}

func TestOfAsManyTurnsAsMayBe(t *testing.T) {
	for n := 1; n <= 45; n++ {
		for _, beyond := range []int{0, 1, 40 - n, 41 - n} {
			if beyond < 0 {
				continue
			}
			want := api.OK
			if n+beyond > 40 {
				want = api.ErrMirrorForm
			}
			l := cycle(n, beyond)
			if m, e := mirror.Of(l, "a"); e != want || e == api.OK && len(m.Turns) != n {
				t.Errorf("P12.1: Of %d turns and %d that are not reached: %d turns, %d", n, beyond, len(m.Turns), e)
			}
			check(t, l, "a")
		}
	}
	if _, e := mirror.Of(api.Local{Turns: make([]api.Turn, 100000)}, "a"); e != api.ErrMirrorForm {
		t.Error("P12.1: Of 100000 turns:", e)
	}
}
