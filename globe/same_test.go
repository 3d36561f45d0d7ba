package globe_test

import (
	"math/rand"
	"slices"
	"testing"

	"repartee/api"
	"repartee/globe"
	"repartee/sketch"
)

// checkSame checks Same of a and b, and of b and a, and that they stay as they are.
func checkSame(t *testing.T, a, b api.Protocol, want bool) {
	t.Helper()
	a2, b2 := sketch.CopyProtocol(a), sketch.CopyProtocol(b)
	if globe.Same(a, b) != want || globe.Same(b, a) != want {
		t.Fatalf("P7.2: Same(%v, %v) = %v", a, b, !want)
	}
	if !sketch.SameProtocol(a, a2) || !sketch.SameProtocol(b, b2) {
		t.Fatalf("P0.4: Same changed %v to %v, or %v to %v", a2, a, b2, b)
	}
}

func TestSame(t *testing.T) {
	for _, c := range []struct {
		a, b string
		want bool
	}{
		// The order of the points, of the arms, and points that are not reached.
		{"a-b!x>1,y>2 c-a!x>0 .", "a-b!x>2,y>1 . c-a!x>0", true},
		{"a-b!x>1,y>2 c-a!x>0 .", "a-b!y>2,x>1 c-a!x>0 .", true},
		{"a-b!x>1,y>2 c-a!x>0 .", "a-b!y>1,x>2 . c-a!x>0", true},
		{"a-b!x>1 .", "a-b!x>1 . .", true},
		{"a-b!x>1 .", "a-b!x>2 c-b!x>0 .", true},
		{"a-b!x>0", "a-b!x>0 .", true},
		{".", ". a-b!x>0", true},
		{". c-a!x>1", ". a-b!x>0 .", true},
		// One field of a point or an arm.
		{"a-b!x>0", "b-a!x>0", false},
		{"a-b!x>0", "c-b!x>0", false},
		{"a-b!x>0", "a-c!x>0", false},
		{"a-b!x>0", "a-b!y>0", false},
		{"a-b!x>0", "a-b!x:1>0", false},
		{"a-b!x:1>0", "a-b!x:2>0", false},
		{"a-b!x:5p>0", "a-b!x:5q>0", false},
		{"a-b!x:5p>0", "a-b!x:5p.r>0", false},
		{"a-b!x>0 .", "a-b!x>1 .", false},
		{"a-b!x>0,y>1 .", "a-b!x>1,y>0 .", false},
		{"a-b!x>0,y>1 .", "a-b!x>0,y>0 .", false},
		{"a-b!x:1>0,y:2>0", "a-b!x:2>0,y:1>0", false},
		{"a-b!x>1 b-c!x>0", "a-b!x>1 b-c!y>0", false},
		{"a-b!x>1 b-c!x>0", "a-b!x>1 c-b!x>0", false},
		{"a-b!x>1 b-c!x>0", "a-b!x>1 a-c!x>0", false},
		{"a-b!x>1 b-c!x>0", "a-b!x>1 b-a!x>0", false},
		// One arm, or one point, more.
		{"a-b!x>0", "a-b!x>0,y>0", false},
		{"a-b!x>0,y>0", "a-b!y>0", false},
		{".", "a-b!x>0", false},
		{"a-b!x>1 .", "a-b!x>1 a-b!x>2 .", false},
		{"a-b!x>1 .", ".", false},
		// The first point is another.
		{"a-b!x>1 c-a!x>0", "c-a!x>1 a-b!x>0", false},
		{"a-b!x>1 .", ". a-b!x>0", false},
		// Equal ways do not make equal graphs.
		{"a-b!x>0", "a-b!x>1 a-b!x>0", false},
		{"a-b!x>0", "a-b!x>1 a-b!x>1", false},
		{"a-b!x>1,y>1 .", "a-b!x>1,y>2 . .", false},
		{"a-b!x>1,y>2 b-a!x>3 b-a!x>3 .", "a-b!x>1,y>2 b-a!x>3 b-a!x>4 . .", false},
	} {
		checkSame(t, proto(c.a), proto(c.b), c.want)
		checkSame(t, proto(c.a), proto(c.a), true)
		// The Names do not count; the Roles do.
		a, b := proto(c.a), proto(c.b)
		a.Name, b.Name = "one", "two"
		checkSame(t, a, b, c.want)
		for _, roles := range []string{"b a c", "a c b", "c a b", "a b c d", "d a b c"} {
			checkSame(t, rolesOf(roles, c.a), rolesOf(roles, c.b), c.want)
			checkSame(t, proto(c.a), rolesOf(roles, c.b), false)
			checkSame(t, proto(c.a), rolesOf(roles, c.a), false)
		}
	}
	checkSame(t, rolesOf("a b", "."), rolesOf("a c", "."), false)
	checkSame(t, rolesOf("a b", "."), rolesOf("b a", "."), false)
	checkSame(t, rolesOf("a b", "."), rolesOf("a b c", "."), false)
	checkSame(t, rolesOf("a bc", "."), rolesOf("ab c", "."), false)
}

func TestSameOfInvalidProtocols(t *testing.T) {
	l := []api.Protocol{{}, rolesOf("a", "."), rolesOf("a a", "."), rolesOf("a A", "."), rolesOf("a b c d e f", ".")}
	for _, s := range []string{"", "a-b!X>0", "a-b!x>1", "a-b!x>0,x>0", ". a-a!x>0", "a-b!x:6>0", "a-d!x>0", "d-a!x>0", "a-!x>0", ". -a!x>0"} {
		l = append(l, proto(s))
	}
	many, named := proto(""), proto("a-b!x>0")
	many.Points, named.Name = make([]api.Point, 25), "A"
	l = append(l, many, named)
	for _, a := range l {
		for _, b := range l {
			checkSame(t, a, b, false)
		}
		for _, s := range []string{".", "a-b!x>0", "a-b!x>1 .", ". a-b!x>0"} {
			checkSame(t, a, proto(s), false)
		}
		check(t, a, false)
	}
}

// smallProtocols are all protocols of n points that are the end, or go from a to b or from b to c (and, if n is less than 3, from c to a), with the arm x or the arms x and y (if n is less than 3, in either order; otherwise with the lower Next first).
func smallProtocols(n int) []api.Protocol {
	pairs := [][2]string{{"a", "b"}, {"b", "c"}, {"c", "a"}}
	if n > 2 {
		pairs = pairs[:2]
	}
	choices := []api.Point{{}}
	for _, pair := range pairs {
		put := func(arms ...api.Arm) {
			choices = append(choices, api.Point{From: pair[0], To: pair[1], Arms: arms})
		}
		for i := range n {
			put(api.Arm{Label: "x", Next: i})
			for j := range n {
				if n < 3 {
					put(api.Arm{Label: "y", Next: j}, api.Arm{Label: "x", Next: i})
				}
				if n < 3 || i < j {
					put(api.Arm{Label: "x", Next: i}, api.Arm{Label: "y", Next: j})
				}
			}
		}
	}
	all := []api.Protocol{proto("")}
	for range n {
		var longer []api.Protocol
		for _, p := range all {
			for _, x := range choices {
				q := p
				q.Points = append(slices.Clone(p.Points), x)
				longer = append(longer, q)
			}
		}
		all = longer
	}
	return all
}

// subsets are all lists of indices of a protocol of n points, in ascending order.
func subsets(n int) [][]int {
	var all [][]int
	for set := range 1 << n {
		var l []int
		for i := range n {
			if set>>i&1 == 1 {
				l = append(l, i)
			}
		}
		all = append(all, l)
	}
	return all
}

func TestAllSmallProtocols(t *testing.T) {
	for n := 1; n <= 3; n++ {
		for _, p := range smallProtocols(n) {
			froms := append(subsets(n), []int{n, -1})
			if !checkAll(t, p, someWays, froms) {
				t.Fatal("P7.1: not valid:", p)
			}
		}
	}
}

func TestSameOfAllSmallProtocols(t *testing.T) {
	all := append(smallProtocols(1), smallProtocols(2)...)
	for i, a := range all {
		// Every protocol with each that is not far from it, and with some that are.
		for j, b := range all {
			if j-i >= 0 && j-i < 40 || (i+j)%37 == 0 {
				checkSame(t, a, b, simpleSame(a, b))
			}
		}
	}
}

// randomProtocol is a protocol of up to n points that is valid.
func randomProtocol(r *rand.Rand, n int) api.Protocol {
	p := api.Protocol{Name: "some", Points: make([]api.Point, 1+r.Intn(n))}
	for _, k := range r.Perm(6)[:2+r.Intn(4)] {
		p.Roles = append(p.Roles, []string{"a", "b", "c", "d", "aa", "e2"}[k])
	}
	for i := range p.Points {
		if r.Intn(5) == 0 {
			continue
		}
		// Most points are of the first two roles, so that the others take part in few.
		two := []int{0, 1}
		if r.Intn(3) == 0 {
			two = r.Perm(len(p.Roles))[:2]
		}
		x := api.Point{From: p.Roles[two[0]], To: p.Roles[two[1]]}
		for _, k := range r.Perm(6)[:1+r.Intn(1+r.Intn(6))] {
			x.Arms = append(x.Arms, api.Arm{Label: []string{"x", "y", "z", "a", "x2", "xx"}[k], Carries: randomCarries(r), Next: r.Intn(len(p.Points))})
		}
		p.Points[i] = x
	}
	return p
}

func randomCarries(r *rand.Rand) api.Carries {
	k := r.Intn(6)
	if k < 5 {
		return api.Carries{Kind: k}
	}
	return api.Carries{Kind: k, Name: []string{"rest", "p.r", "p.s"}[r.Intn(3)]}
}

// randomWays are ways that follow the arms of a valid protocol, some of them with one label too many.
func randomWays(r *rand.Rand, p api.Protocol) [][]string {
	ways := make([][]string, 10)
	for i := range ways {
		at := 0
		for range r.Intn(12) {
			arms := p.Points[at].Arms
			if len(arms) == 0 {
				break
			}
			a := arms[r.Intn(len(arms))]
			ways[i] = append(ways[i], a.Label)
			at = a.Next
		}
		if r.Intn(3) == 0 {
			ways[i] = append(ways[i], "y")
		}
	}
	return ways
}

// randomFroms are lists of indices, most of them of points.
func randomFroms(r *rand.Rand, n int) [][]int {
	froms := make([][]int, 6)
	for i := range froms {
		for range r.Intn(5) {
			froms[i] = append(froms[i], r.Intn(n+2)-1)
		}
	}
	return froms
}

func TestRandomProtocols(t *testing.T) {
	r := rand.New(rand.NewSource(7))
	for i := range 800 {
		p := randomProtocol(r, 1+i%api.MaxPoints)
		if !checkAll(t, p, randomWays(r, p), randomFroms(r, len(p.Points))) {
			t.Fatal("P7.1: not valid:", p)
		}
	}
}

// shuffled is p with its points behind the first in another order, perhaps with points more that are not reached, and its arms in another order.
func shuffled(r *rand.Rand, p api.Protocol) api.Protocol {
	n := len(p.Points) + r.Intn(api.MaxPoints+1-len(p.Points))
	to := []int{0}
	for _, k := range r.Perm(n - 1) {
		to = append(to, k+1)
	}
	out := api.Protocol{Name: "other", Roles: p.Roles, Points: make([]api.Point, n)}
	for i := len(p.Points); i < n; i++ {
		out.Points[to[i]] = api.Point{From: p.Roles[1], To: p.Roles[0], Arms: []api.Arm{{Label: "w", Next: r.Intn(n)}}}
	}
	for i, x := range p.Points {
		arms := make([]api.Arm, len(x.Arms))
		for j, k := range r.Perm(len(x.Arms)) {
			arms[j] = x.Arms[k]
			arms[j].Next = to[arms[j].Next]
		}
		out.Points[to[i]] = api.Point{From: x.From, To: x.To, Arms: arms}
	}
	return out
}

func TestSameOfShuffledProtocols(t *testing.T) {
	r := rand.New(rand.NewSource(8))
	for i := range 2000 {
		a := randomProtocol(r, 1+i%api.MaxPoints)
		b := shuffled(r, a)
		checkSame(t, a, b, true)
		x, y := globe.Trim(a), globe.Trim(b)
		if y.Name = x.Name; !sketch.SameProtocol(x, y) {
			t.Fatalf("P7.2: the Trims of %v and %v differ: %v and %v", a, b, x, y)
		}
	}
}

// The protocols differ in one field of one arm or one point, which counts if the point is reached, or in their roles.
func TestSameOfProtocolsThatDifferInOneField(t *testing.T) {
	r := rand.New(rand.NewSource(9))
	for i := range 2000 {
		a := randomProtocol(r, 1+i%12)
		b := sketch.CopyProtocol(a)
		x := &b.Points[r.Intn(len(b.Points))]
		if len(x.Arms) == 0 {
			*x = api.Point{From: a.Roles[0], To: a.Roles[1], Arms: manyArms(1)}
			checkSame(t, a, b, simpleSame(a, b))
			continue
		}
		arm := &x.Arms[r.Intn(len(x.Arms))]
		switch r.Intn(6) {
		case 0:
			x.From, x.To = x.To, x.From
		case 1:
			b.Roles[0], b.Roles[1] = b.Roles[1], b.Roles[0]
		case 2:
			arm.Label += "w"
		case 3:
			arm.Carries = api.Carries{Kind: api.Chan, Name: "other"}
		case 4:
			arm.Next = (arm.Next + 1) % len(b.Points)
		case 5:
			b.Name = "other"
		}
		checkSame(t, a, b, simpleSame(a, b))
	}
}
