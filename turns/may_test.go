package turns_test

import (
	"math"
	"strconv"
	"strings"
	"testing"

	"repartee/api"
	"repartee/sketch"
	"repartee/turns"
)

var (
	goodNames = sketch.Names()
	badNames  = sketch.NoNames()
	oddInts   = []int{math.MinInt, -1 << 32, -2, -1, 3, 4, 5, 6, 7, 256, 1 << 32, 1<<32 + 1, 1<<32 + 2, math.MaxInt}
)

// single is the type of one turn with these arms.
func single(kind int, peer string, arms ...api.Arm) api.Local {
	return api.Local{Turns: []api.Turn{{Kind: kind, Peer: peer, Arms: arms}}}
}

// manyArms has n arms with labels of their own.
func manyArms(n int) []api.Arm {
	l := make([]api.Arm, n)
	for i := range l {
		l[i].Label = "a" + strconv.Itoa(i)
	}
	return l
}

// hosts are valid types for a turn to be put in: before, between and behind other turns, where it is reached and where it is not.
func hosts(x api.Turn) []api.Local {
	return []api.Local{
		{Turns: []api.Turn{x}},
		{Turns: []api.Turn{x, {}}},
		{Turns: []api.Turn{{}, x}},
		{Turns: append(typed("b!a>1").Turns, x)},
		{Turns: append(typed("b!a>0,b>2 c?x>0").Turns, x, api.Turn{})},
		{Name: "host", Turns: append(typed("b!a>1 .").Turns, x, api.Turn{})},
	}
}

// checkTurn checks that each type with this turn is valid, or that none is.
func checkTurn(t *testing.T, x api.Turn, want bool) {
	t.Helper()
	good := typed("b!a>0")
	for _, l := range hosts(x) {
		if turns.May(l) != want {
			t.Fatalf("P6.1: May(%v) = %v", l, !want)
		}
		checkAll(t, l, someWays)
		if !want && (turns.Same(l, good) || turns.Same(good, l) || turns.Same(l, l)) {
			t.Fatalf("P6.3: Same says that %v, which is not valid, is the same as another", l)
		}
	}
}

// checkArm checks a turn with this arm alone, and with the arm before, between and behind others.
func checkArm(t *testing.T, a api.Arm, want bool) {
	t.Helper()
	p, q := api.Arm{Label: "p"}, api.Arm{Label: "q", Carries: api.Carries{Kind: api.Text}}
	for _, arms := range [][]api.Arm{{a}, {a, p}, {p, a}, {p, a, q}} {
		checkTurn(t, api.Turn{Kind: api.Send, Peer: "b", Arms: arms}, want)
		checkTurn(t, api.Turn{Kind: api.Recv, Peer: "b", Arms: arms}, want)
	}
}

func TestMayOfNumbersOfTurns(t *testing.T) {
	if checkAll(t, api.Local{}, someWays) || checkAll(t, api.Local{Name: "none", Turns: []api.Turn{}}, someWays) {
		t.Error("P6.1: a type without turns is valid")
	}
	for n := 1; n <= 2*api.MaxTurns; n++ {
		ends := api.Local{Turns: make([]api.Turn, n)}
		chain := api.Local{Turns: make([]api.Turn, n)}
		for i := range n {
			chain.Turns[i] = api.Turn{Kind: api.Recv, Peer: "b", Arms: []api.Arm{{Label: "a", Next: (i + 1) % n}}}
		}
		for _, l := range []api.Local{ends, chain} {
			if got, want := turns.May(l), n <= 40; got != want {
				t.Errorf("P6.1: May of %d turns = %v", n, got)
			}
			checkAll(t, l, someWays)
		}
	}
	if turns.May(api.Local{Turns: make([]api.Turn, 100000)}) {
		t.Error("P6.1: a type of 100000 turns is valid")
	}
}

func TestMayOfNumbersOfArms(t *testing.T) {
	for _, kind := range []int{api.Send, api.Recv} {
		checkTurn(t, api.Turn{Kind: kind, Peer: "b"}, false)
		checkTurn(t, api.Turn{Kind: kind, Peer: "b", Arms: []api.Arm{}}, false)
		for n := range 4 * api.MaxArms {
			checkTurn(t, api.Turn{Kind: kind, Peer: "b", Arms: manyArms(n)}, n >= 1 && n <= 6)
		}
		checkTurn(t, api.Turn{Kind: kind, Peer: "b", Arms: manyArms(10000)}, false)
	}
}

func TestMayOfEnds(t *testing.T) {
	checkTurn(t, api.Turn{}, true)
	checkTurn(t, api.Turn{Arms: []api.Arm{}}, true)
	for _, arms := range [][]api.Arm{nil, {}, {{}}, manyArms(1), manyArms(6), manyArms(7)} {
		for _, peer := range []string{"", "b", "end", "A"} {
			checkTurn(t, api.Turn{Peer: peer, Arms: arms}, peer == "" && len(arms) == 0)
		}
	}
}

func TestMayOfKinds(t *testing.T) {
	for _, k := range append([]int{0, 1, 2}, oddInts...) {
		checkTurn(t, api.Turn{Kind: k}, k == 0)
		checkTurn(t, api.Turn{Kind: k, Peer: "b", Arms: manyArms(1)}, k == 1 || k == 2)
		checkTurn(t, api.Turn{Kind: k, Peer: "b"}, false)
		checkTurn(t, api.Turn{Kind: k, Arms: manyArms(1)}, false)
	}
}

func TestMayOfPeers(t *testing.T) {
	for _, kind := range []int{api.Send, api.Recv} {
		for _, p := range goodNames {
			checkTurn(t, api.Turn{Kind: kind, Peer: p, Arms: manyArms(2)}, true)
		}
		for _, p := range badNames {
			checkTurn(t, api.Turn{Kind: kind, Peer: p, Arms: manyArms(2)}, false)
		}
	}
}

func TestMayOfLabels(t *testing.T) {
	for _, s := range goodNames {
		checkArm(t, api.Arm{Label: s}, true)
	}
	for _, s := range badNames {
		checkArm(t, api.Arm{Label: s}, false)
	}
}

func TestMayOfLabelsUsedTwice(t *testing.T) {
	for n := 2; n <= api.MaxArms; n++ {
		for i := range n {
			for j := range i {
				arms := manyArms(n)
				arms[i].Label = arms[j].Label
				checkTurn(t, api.Turn{Kind: api.Recv, Peer: "b", Arms: arms}, false)
				// What else the arms have makes them no two labels.
				arms[i].Carries.Kind = api.Int
				checkTurn(t, api.Turn{Kind: api.Send, Peer: "b", Arms: arms}, false)
			}
		}
	}
	for _, s := range []string{"b!a>1 b!a>0", "a!a>0", "b!a>1,b>0 c?b>1,a>0", "b!a>0,aa>0,a1>0"} {
		if !checkAll(t, typed(s), someWays) {
			t.Error("P6.1: not valid:", s)
		}
	}
}

func TestMayOfNexts(t *testing.T) {
	for n := 1; n <= api.MaxTurns; n++ {
		for _, next := range append(oddInts, 0, n-1, n, n+1, 40, 41, -n) {
			for _, at := range []int{0, n / 2, n - 1} {
				l := api.Local{Turns: make([]api.Turn, n)}
				l.Turns[at] = api.Turn{Kind: api.Send, Peer: "b", Arms: []api.Arm{{Label: "p"}, {Label: "a", Next: next}}}
				if got, want := checkAll(t, l, someWays[:4]), next >= 0 && next < n; got != want {
					t.Fatalf("P6.1: %v: valid is %v", l, got)
				}
			}
		}
	}
}

func TestMayOfKindsOfCarries(t *testing.T) {
	for _, k := range append([]int{0, 1, 2, 3, 4, 5}, oddInts...) {
		for _, name := range []string{"", "rest", "p.r"} {
			named := name != ""
			checkArm(t, api.Arm{Label: "a", Carries: api.Carries{Kind: k, Name: name}}, k == 5 && named || k >= 0 && k <= 4 && !named)
		}
	}
}

func TestMayOfNamesOfCarries(t *testing.T) {
	check := func(name string, want bool) {
		t.Helper()
		checkArm(t, api.Arm{Label: "a", Carries: api.Carries{Kind: api.Chan, Name: name}}, want)
		checkArm(t, api.Arm{Label: "a", Carries: api.Carries{Kind: api.List, Name: name}}, name == "")
	}
	for _, a := range goodNames {
		check(a, true)
		check(a+".", false)
		check("."+a, false)
		check(a+"..", false)
		check(".."+a, false)
		for _, b := range goodNames[:6] {
			check(a+"."+b, true)
			check(a+".."+b, false)
			check(a+"."+b+".", false)
			check("."+a+"."+b, false)
			check(a+"."+b+"."+a, false)
			check(a+","+b, false)
			check(a+". "+b, false)
			check(a+" ."+b, false)
		}
	}
	for _, a := range badNames {
		if a == "a.b" {
			check(a, true)
			continue
		}
		check(a, false)
		check(a+".", false)
		check("."+a, false)
		check("b."+a, false)
		check(a+".b", false)
		check(a+"."+a, false)
	}
	check(".", false)
	check("..", false)
	check("b.a.b", false)
	check("a.b.c.d", false)
	check(strings.Repeat("a.", 1000)+"a", false)
	check(strings.Repeat(".", 1000), false)
}

func TestMayWhateverTheNameIs(t *testing.T) {
	for _, name := range append(append([]string{"NOT A NAME", "p.r", "p.r.s", "\x00\xff"}, goodNames...), badNames...) {
		l := typed("b!a>1,x>0 .")
		l.Name = name
		if !checkAll(t, l, someWays) {
			t.Errorf("P6.1: a type with the Name %q is not valid", name)
		}
		if turns.Trim(l).Name != name {
			t.Errorf("P6.2: Trim does not keep the Name %q", name)
		}
		if !turns.Same(l, typed("b!a>1,x>0 .")) {
			t.Errorf("P6.3: the Name %q makes a type another one", name)
		}
		l.Turns[1].Kind = 3
		checkAll(t, l, someWays)
	}
}

// Of each turn, one field is wrong, whether the turn is reached or not.
func TestMayOfOneWrongField(t *testing.T) {
	good := typed("b?y:1>4,x>2 z!q:5rest>0 c!k>0,j:5p.r>4 . b!a>0 .")
	if !checkAll(t, good, someWays) {
		t.Fatal("P6.1: not valid:", good)
	}
	changes := []func(x *api.Turn){
		func(x *api.Turn) { x.Kind = 3 },
		func(x *api.Turn) { x.Kind = -1 },
		func(x *api.Turn) { x.Kind, x.Peer = 0, "b" },
		func(x *api.Turn) { x.Kind, x.Peer, x.Arms = 1, "b", nil },
		func(x *api.Turn) { x.Kind, x.Peer, x.Arms = 2, "b", manyArms(7) },
		func(x *api.Turn) { x.Kind, x.Peer, x.Arms = 1, "", manyArms(1) },
		func(x *api.Turn) { x.Kind, x.Peer, x.Arms = 0, "", manyArms(1) },
	}
	for _, s := range []string{"A>0", ">0", "a>6", "a>-1", "a:6>0", "a:/>0", "a:1n>0", "a:5>0", "a:5p.>0", "a:5.r>0", "a:5p.r.s>0", "p>0"} {
		changes = append(changes, func(x *api.Turn) { x.Kind, x.Peer, x.Arms = 2, "b", []api.Arm{{Label: "p"}, sketch.Arms(s)[0]} })
	}
	for i := range good.Turns {
		for j, change := range changes {
			l := sketch.CopyLocal(good)
			change(&l.Turns[i])
			if checkAll(t, l, someWays) {
				t.Fatalf("P6.1: turn %d, change %d: valid: %v", i, j, l)
			}
			if turns.Same(l, good) || turns.Same(good, l) {
				t.Fatalf("P6.3: turn %d, change %d: the same: %v", i, j, l)
			}
		}
	}
}
