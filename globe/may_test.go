package globe_test

import (
	"math"
	"slices"
	"strconv"
	"strings"
	"testing"

	"repartee/api"
	"repartee/globe"
	"repartee/sketch"
)

var (
	goodNames = sketch.Names()
	badNames  = sketch.NoNames()
	oddInts   = []int{math.MinInt, -1 << 32, -2, -1, 5, 6, 7, 256, 1 << 32, 1<<32 + 1, math.MaxInt}
)

// manyArms has n arms with labels of their own.
func manyArms(n int) []api.Arm {
	l := make([]api.Arm, n)
	for i := range l {
		l[i].Label = "x" + strconv.Itoa(i)
	}
	return l
}

// manyRoles are n roles.
func manyRoles(n int) []string {
	l := make([]string, n)
	for i := range l {
		l[i] = "r" + strconv.Itoa(i)
	}
	return l
}

// check checks all functions of p, which is valid or not, as told.
func check(t *testing.T, p api.Protocol, want bool) {
	t.Helper()
	if globe.May(p) != want {
		t.Fatalf("P7.1: May(%v) = %v", p, !want)
	}
	checkAll(t, p, someWays, fewFroms(len(p.Points)))
	good := proto("a-b!x>0")
	if !want && (globe.Same(p, good) || globe.Same(good, p) || globe.Same(p, p)) {
		t.Fatalf("P7.2: Same says that %v, which is not valid, is the same as another", p)
	}
}

// hosts are protocols for a point to be put in: before, between and behind other points, where it is reached and where it is not.
func hosts(x api.Point) []api.Protocol {
	l := []api.Protocol{
		proto(""),
		proto("a-b!x>1"),
		proto("c-b!x>0,y>2 b-a!x>0"),
		proto("a-b!x>1 ."),
	}
	for i := range l {
		l[i].Points = append(l[i].Points, x)
	}
	before, between := proto("."), proto("a-b!x>0 . b-c!x>1")
	before.Points = slices.Insert(before.Points, 0, x)
	between.Points = slices.Insert(between.Points, 1, x)
	return append(l, before, between)
}

// checkPoint checks that each protocol with this point is valid, or that none is.
func checkPoint(t *testing.T, x api.Point, want bool) {
	t.Helper()
	for _, p := range hosts(x) {
		check(t, p, want)
	}
}

// checkArm checks a point with this arm alone, and with the arm before, between and behind others.
func checkArm(t *testing.T, a api.Arm, want bool) {
	t.Helper()
	p, q := api.Arm{Label: "p"}, api.Arm{Label: "q", Carries: api.Carries{Kind: api.Text}}
	for _, arms := range [][]api.Arm{{a}, {a, p}, {p, a}, {p, a, q}} {
		checkPoint(t, api.Point{From: "a", To: "c", Arms: arms}, want)
	}
}

func TestMayOfNames(t *testing.T) {
	for _, text := range []string{".", "a-b!x>1,y>0 .", "a-b!x>0"} {
		p := proto(text)
		for _, name := range goodNames {
			p.Name = name
			check(t, p, true)
			if globe.Trim(p).Name != name {
				t.Errorf("P7.2: Trim does not keep the Name %q", name)
			}
		}
		for _, name := range badNames {
			p.Name = name
			check(t, p, false)
		}
	}
}

func TestMayOfNumbersOfRoles(t *testing.T) {
	for n := range 3 * api.MaxRoles {
		p := api.Protocol{Name: "p", Roles: manyRoles(n), Points: []api.Point{{}}}
		check(t, p, n >= 2 && n <= 5)
		if n < 2 {
			continue
		}
		for i := range n {
			p.Points = []api.Point{{From: p.Roles[i], To: p.Roles[(i+1)%n], Arms: manyArms(1)}}
			check(t, p, n <= 5)
		}
	}
	check(t, api.Protocol{Name: "p", Points: []api.Point{{}}}, false)
	check(t, api.Protocol{Name: "p", Roles: manyRoles(20000), Points: []api.Point{{}}}, false)
}

func TestMayOfNamesOfRoles(t *testing.T) {
	for n := 2; n <= api.MaxRoles; n++ {
		for i := range n {
			for _, name := range goodNames {
				p := api.Protocol{Name: "p", Roles: manyRoles(n), Points: []api.Point{{}}}
				p.Roles[i] = name
				check(t, p, true)
				p.Points = []api.Point{{From: name, To: p.Roles[(i+1)%n], Arms: manyArms(2)}, {From: p.Roles[(i+1)%n], To: name, Arms: manyArms(2)}}
				check(t, p, true)
			}
			for _, name := range badNames {
				p := api.Protocol{Name: "p", Roles: manyRoles(n), Points: []api.Point{{}}}
				p.Roles[i] = name
				check(t, p, false)
				p.Points = []api.Point{{From: name, To: p.Roles[(i+1)%n], Arms: manyArms(2)}}
				check(t, p, false)
			}
		}
	}
}

func TestMayOfRolesUsedTwice(t *testing.T) {
	for n := 2; n <= api.MaxRoles; n++ {
		for i := range n {
			for j := range i {
				p := api.Protocol{Name: "p", Roles: manyRoles(n), Points: []api.Point{{}}}
				p.Roles[i] = p.Roles[j]
				check(t, p, false)
				p.Points = []api.Point{{From: p.Roles[i], To: p.Roles[(i+1)%n], Arms: manyArms(1)}}
				check(t, p, false)
			}
		}
	}
	// Roles of which one is a part of another, and the name of the protocol or a label as a role, are no role twice.
	check(t, rolesOf("a aa aaa aa2", "a-aa!aaa>0"), true)
	check(t, rolesOf("p x", "p-x!p>0,x>0"), true)
}

func TestMayOfNumbersOfPoints(t *testing.T) {
	check(t, proto(""), false)
	p := proto("")
	p.Points = []api.Point{}
	check(t, p, false)
	for n := 1; n <= 2*api.MaxPoints; n++ {
		ends, chain := proto(""), proto("")
		ends.Points, chain.Points = make([]api.Point, n), make([]api.Point, n)
		for i := range n {
			chain.Points[i] = api.Point{From: "c", To: "a", Arms: []api.Arm{{Label: "x", Next: (i + 1) % n}}}
		}
		check(t, ends, n <= 24)
		check(t, chain, n <= 24)
	}
	p.Points = make([]api.Point, 100000)
	check(t, p, false)
}

// Every From and every To of these, with and without Arms.
func TestMayOfFromAndTo(t *testing.T) {
	who := append([]string{"c", "d", "p", "ab", "aa"}, append(goodNames[:4], badNames...)...)
	roles := []string{"a", "b", "c"}
	for _, from := range who {
		for _, to := range who {
			both := slices.Contains(roles, from) && slices.Contains(roles, to) && from != to
			for _, arms := range [][]api.Arm{nil, {}, manyArms(1), manyArms(2)} {
				end := from == "" && to == "" && len(arms) == 0
				p := proto(".")
				p.Points = append(p.Points, api.Point{From: from, To: to, Arms: arms})
				if globe.May(p) != (end || both && len(arms) > 0) {
					t.Fatalf("P7.1: May(%v) is wrong", p)
				}
			}
		}
	}
}

func TestMayOfPoints(t *testing.T) {
	one := manyArms(1)
	for _, c := range []struct {
		x    api.Point
		want bool
	}{
		{api.Point{}, true},
		{api.Point{Arms: []api.Arm{}}, true},
		{api.Point{From: "a", To: "b", Arms: one}, true},
		{api.Point{From: "b", To: "a", Arms: one}, true},
		{api.Point{From: "c", To: "a", Arms: one}, true},
		// Neither From nor To, but Arms; both, but none.
		{api.Point{Arms: one}, false},
		{api.Point{Arms: []api.Arm{{}}}, false},
		{api.Point{From: "a", To: "b"}, false},
		{api.Point{From: "a", To: "b", Arms: []api.Arm{}}, false},
		// One of the two alone.
		{api.Point{From: "a"}, false},
		{api.Point{To: "a"}, false},
		{api.Point{From: "a", Arms: one}, false},
		{api.Point{To: "a", Arms: one}, false},
		// A role that sends to itself.
		{api.Point{From: "a", To: "a"}, false},
		{api.Point{From: "a", To: "a", Arms: one}, false},
		{api.Point{From: "c", To: "c", Arms: one}, false},
		// No role of the protocol.
		{api.Point{From: "d", To: "a", Arms: one}, false},
		{api.Point{From: "a", To: "d", Arms: one}, false},
		{api.Point{From: "d", To: "e", Arms: one}, false},
		{api.Point{From: "d", To: "d", Arms: one}, false},
		{api.Point{From: "p", To: "a", Arms: one}, false},
		{api.Point{From: "A", To: "a", Arms: one}, false},
		{api.Point{From: "a", To: "a ", Arms: one}, false},
		{api.Point{From: "d", To: "e"}, false},
	} {
		checkPoint(t, c.x, c.want)
	}
	// What is a role of one protocol is none of another.
	check(t, rolesOf("a b", "a-b!x>1 b-c!x>0"), false)
	check(t, rolesOf("a b", "a-b!x>1 c-b!x>0"), false)
}

func TestMayOfNumbersOfArms(t *testing.T) {
	for n := range 4 * api.MaxArms {
		checkPoint(t, api.Point{From: "a", To: "b", Arms: manyArms(n)}, n >= 1 && n <= 6)
	}
	checkPoint(t, api.Point{From: "a", To: "b", Arms: manyArms(10000)}, false)
}

func TestMayOfLabels(t *testing.T) {
	for _, s := range goodNames {
		checkArm(t, api.Arm{Label: s}, true)
	}
	for _, s := range badNames {
		checkArm(t, api.Arm{Label: s}, false)
	}
}

func TestMayOfLabelsUsedTwice(t *testing.T) {
	for n := 2; n <= api.MaxArms; n++ {
		for i := range n {
			for j := range i {
				arms := manyArms(n)
				arms[i].Label = arms[j].Label
				checkPoint(t, api.Point{From: "a", To: "b", Arms: arms}, false)
				// What else the arms have makes them no two labels.
				arms[i].Carries.Kind = api.Int
				checkPoint(t, api.Point{From: "b", To: "a", Arms: arms}, false)
			}
		}
	}
	for _, s := range []string{"a-b!x>1 a-b!x>0", "a-b!a>0", "a-b!p>0", "a-b!x>1,y>0 b-c!y>1,x>0", "a-b!x>0,xx>0,x1>0"} {
		check(t, proto(s), true)
	}
}

func TestMayOfNexts(t *testing.T) {
	for n := 1; n <= api.MaxPoints; n++ {
		for _, next := range append(oddInts, 0, n-1, n, n+1, 24, 25, 40, -n) {
			for _, at := range []int{0, n / 2, n - 1} {
				p := proto("")
				p.Points = make([]api.Point, n)
				p.Points[at] = api.Point{From: "a", To: "b", Arms: []api.Arm{{Label: "p"}, {Label: "x", Next: next}}}
				check(t, p, next >= 0 && next < n)
			}
		}
	}
}

func TestMayOfCarries(t *testing.T) {
	for _, k := range append([]int{0, 1, 2, 3, 4, 5}, oddInts...) {
		for _, name := range []string{"", "rest", "p.r"} {
			named := name != ""
			checkArm(t, api.Arm{Label: "x", Carries: api.Carries{Kind: k, Name: name}}, k == 5 && named || k >= 0 && k <= 4 && !named)
		}
	}
	for _, name := range []string{".", "..", "a.", ".a", "a..b", "a.b.", ".a.b", "a.b.c", "A", "a.B", "A.b", "end", "end.a", "a.end", "a b", "a,b", "abcdefghijklm", "a.abcdefghijklm", strings.Repeat("a.", 1000) + "a"} {
		checkArm(t, api.Arm{Label: "x", Carries: api.Carries{Kind: api.Chan, Name: name}}, false)
	}
	for _, name := range append([]string{"a.b", "a.a", "p.a", "other.role", "abcdefghijkl.abcdefghijkl"}, goodNames...) {
		checkArm(t, api.Arm{Label: "x", Carries: api.Carries{Kind: api.Chan, Name: name}}, true)
	}
}

// One field is wrong, whether the point is reached or not.
func TestMayOfOneWrongField(t *testing.T) {
	good := proto("a-b!y:1>4,x>2 b-c!q:5rest>0 c-a!k>0,j:5p.r>4 . a-c!x>0 .")
	check(t, good, true)
	changes := []func(x *api.Point){
		func(x *api.Point) { x.From, x.To, x.Arms = "a", "", nil },
		func(x *api.Point) { x.From, x.To, x.Arms = "", "a", nil },
		func(x *api.Point) { x.From, x.To, x.Arms = "a", "b", nil },
		func(x *api.Point) { x.From, x.To, x.Arms = "", "", manyArms(1) },
		func(x *api.Point) { x.From, x.To, x.Arms = "", "b", manyArms(1) },
		func(x *api.Point) { x.From, x.To, x.Arms = "a", "", manyArms(1) },
		func(x *api.Point) { x.From, x.To, x.Arms = "b", "b", manyArms(1) },
		func(x *api.Point) { x.From, x.To, x.Arms = "d", "b", manyArms(1) },
		func(x *api.Point) { x.From, x.To, x.Arms = "b", "d", manyArms(1) },
		func(x *api.Point) { x.From, x.To, x.Arms = "a", "b", manyArms(7) },
	}
	for _, s := range []string{"A>0", ">0", "a>6", "a>-1", "a:6>0", "a:/>0", "a:1n>0", "a:5>0", "a:5p.>0", "a:5.r>0", "a:5p.r.s>0", "p>0"} {
		changes = append(changes, func(x *api.Point) {
			x.From, x.To, x.Arms = "b", "c", []api.Arm{{Label: "p"}, sketch.Arms(s)[0]}
		})
	}
	for i := range good.Points {
		for _, change := range changes {
			p := sketch.CopyProtocol(good)
			change(&p.Points[i])
			check(t, p, false)
			if globe.Same(p, good) || globe.Same(good, p) {
				t.Fatalf("P7.2: an invalid protocol is the same as a valid one: %v", p)
			}
		}
	}
}
