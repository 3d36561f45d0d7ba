package project_test

import (
	"math/rand"
	"slices"
	"testing"

	"repartee/api"
	"repartee/globe"
	"repartee/project"
	"repartee/sketch"
)

// smallProtocols are all protocols of n points that are the end, or one of these with the arm x or the arms x and y.
func smallProtocols(n int, sides ...[2]string) []api.Protocol {
	choices := []api.Point{{}}
	for _, side := range sides {
		put := func(arms ...api.Arm) {
			choices = append(choices, api.Point{From: side[0], To: side[1], Arms: arms})
		}
		for i := range n {
			put(api.Arm{Label: "x", Next: i})
			for j := range n {
				if n < 3 || i != j {
					put(api.Arm{Label: "x", Next: i}, api.Arm{Label: "y", Next: j})
				}
			}
		}
	}
	all := []api.Protocol{proto("")}
	for range n {
		var longer []api.Protocol
		for _, p := range all {
			for _, x := range choices {
				q := p
				q.Points = append(slices.Clone(p.Points), x)
				longer = append(longer, q)
			}
		}
		all = longer
	}
	return all
}

func TestAllSmallProtocols(t *testing.T) {
	all := slices.Concat(smallProtocols(1, [2]string{"a", "b"}, [2]string{"b", "c"}, [2]string{"c", "b"}, [2]string{"c", "a"}), smallProtocols(2, [2]string{"a", "b"}, [2]string{"b", "c"}, [2]string{"c", "b"}, [2]string{"c", "a"}))
	for _, p := range all {
		checkFollows(t, p, 60)
	}
	for i, p := range smallProtocols(3, [2]string{"a", "b"}, [2]string{"b", "c"}) {
		if i%3 == 0 {
			checkFollows(t, p, 30)
		}
	}
}

// randomProtocol is a valid protocol of up to n points. Its last role deals mostly with the second one, at most points in one direction, so that what it does is often the same behind points that it does not see.
func randomProtocol(r *rand.Rand, n int) api.Protocol {
	p := api.Protocol{Name: "some", Points: make([]api.Point, 1+r.Intn(n))}
	for _, k := range r.Perm(6)[:2+r.Intn(4)] {
		p.Roles = append(p.Roles, []string{"a", "b", "c", "d", "aa", "e2"}[k])
	}
	last := len(p.Roles) - 1
	sides := [][2]int{{0, 1}, {0, 1}, {1, last}, {1, last}, {last, 1}, {0, last}}
	sides = sides[:3+r.Intn(4)]
	if r.Intn(2) == 0 {
		sides = [][2]int{{0, 1}, {last, 1}}
	}
	ends, alike := r.Intn(3), r.Intn(2) == 0
	labels := []string{"x", "y", "z", "a", "x2", "xx"}
	for i := range p.Points {
		if r.Intn(6) < ends {
			continue
		}
		side := sides[r.Intn(len(sides))]
		if side[0] == side[1] {
			side = [2]int{0, 1}
		}
		x := api.Point{From: p.Roles[side[0]], To: p.Roles[side[1]]}
		some := r.Perm(6)[:1+r.Intn(1+r.Intn(6))]
		if alike {
			some = r.Perm(2)[:1+r.Intn(2)]
		}
		for _, k := range some {
			x.Arms = append(x.Arms, api.Arm{Label: labels[k], Carries: randomCarries(r, k), Next: r.Intn(len(p.Points))})
		}
		p.Points[i] = x
	}
	return p
}

// randomCarries are mostly those of the label.
func randomCarries(r *rand.Rand, k int) api.Carries {
	if r.Intn(30) == 0 {
		k = r.Intn(6)
	}
	if k < 5 {
		return api.Carries{Kind: k}
	}
	return api.Carries{Kind: k, Name: []string{"rest", "p.r", "p.s"}[r.Intn(20)/18]}
}

// hiddenProtocol is a valid protocol of n points in which a sends to b, or b and c deal with each other, mostly in one direction and mostly with the same labels. So c has many near sets of several points each.
func hiddenProtocol(r *rand.Rand, n int) api.Protocol {
	p := proto("")
	from, to := "b", "c"
	if r.Intn(2) == 0 {
		from, to = to, from
	}
	most := 1 + r.Intn(2)
	if from == "b" {
		most = 1 + r.Intn(4)
	}
	same, odd := r.Intn(3) > 0, r.Intn(6)
	for range n {
		x := api.Point{From: from, To: to}
		some := r.Perm(7)[:most]
		if same {
			some = r.Perm(most)
		}
		if r.Intn(4) == 0 {
			x.From, x.To, some = "a", "b", r.Perm(7)[:1+r.Intn(3)]
		} else if r.Intn(20) == 0 && odd == 0 {
			x.From, x.To = x.To, x.From
		}
		for _, k := range some {
			a := api.Arm{Label: []string{"x", "y", "z", "a", "x2", "xx", "w"}[k], Carries: api.Carries{Kind: k % 5}, Next: r.Intn(n)}
			if r.Intn(100) == 0 && odd == 1 {
				a.Carries = api.Carries{Kind: api.Chan, Name: "p.c"}
			}
			x.Arms = append(x.Arms, a)
		}
		p.Points = append(p.Points, x)
	}
	return p
}

// tally counts what the projections of some protocols are.
type tally struct {
	found map[api.Errno]int
	// How many of them have more turns than the protocol has points, and of how many protocols every role has one.
	long, whole int
}

func tallied(t *testing.T, r *rand.Rand, times int, draw func(*rand.Rand, int) api.Protocol) tally {
	t.Helper()
	l := tally{found: map[api.Errno]int{}}
	for i := range times {
		p := draw(r, 1+i%api.MaxPoints)
		if !globe.May(p) {
			t.Fatal("not valid:", p)
		}
		if checkFollows(t, p, 40) && len(p.Roles) > 2 {
			l.whole++
		}
		for _, role := range p.Roles {
			x, e := project.Role(p, role)
			l.found[e]++
			if len(x.Turns) > len(p.Points)+1 {
				l.long++
			}
		}
	}
	return l
}

func TestRandomProtocols(t *testing.T) {
	l := tallied(t, rand.New(rand.NewSource(7)), 3000, randomProtocol)
	for _, e := range []api.Errno{api.OK, api.ErrProjectEnd, api.ErrProjectMix, api.ErrProjectSays, api.ErrProjectCarries} {
		if l.found[e] < 10 {
			t.Errorf("too few of the random protocols are for error %d: %v", e, l.found)
		}
	}
}

func TestRandomProtocolsWithHiddenPoints(t *testing.T) {
	l := tallied(t, rand.New(rand.NewSource(10)), 1500, hiddenProtocol)
	for _, e := range []api.Errno{api.OK, api.ErrProjectEnd, api.ErrProjectMix, api.ErrProjectSays, api.ErrProjectCarries, api.ErrProjectLarge} {
		if l.found[e] < 10 {
			t.Errorf("too few of the random protocols are for error %d: %v", e, l.found)
		}
	}
	if l.long < 20 || l.whole < 200 {
		t.Errorf("too few of the random protocols have many turns, %d, or are projectable to every role, %d", l.long, l.whole)
	}
}

func TestRandomProtocolsOfTwoRoles(t *testing.T) {
	r := rand.New(rand.NewSource(8))
	for i := range 400 {
		p := randomProtocol(r, 1+i%api.MaxPoints)
		for j, x := range p.Points {
			if len(x.Arms) > 0 {
				p.Points[j].From, p.Points[j].To = p.Roles[i%2], p.Roles[1-i%2]
			}
			if r.Intn(2) == 0 {
				p.Points[j].From, p.Points[j].To = p.Points[j].To, p.Points[j].From
			}
		}
		p.Roles = p.Roles[:2]
		checkTwoRoles(t, p)
	}
}

// A protocol of which the points behind the first are in another order, and the arms too, has the same projections.
func TestTheOrderOfPointsAndArmsIsNoMatter(t *testing.T) {
	r := rand.New(rand.NewSource(9))
	for i := range 2000 {
		p := randomProtocol(r, 1+i%api.MaxPoints)
		q := sketch.CopyProtocol(p)
		to := []int{0}
		for _, k := range r.Perm(len(p.Points) - 1) {
			to = append(to, k+1)
		}
		for j, x := range p.Points {
			arms := make([]api.Arm, len(x.Arms))
			for n, k := range r.Perm(len(x.Arms)) {
				arms[n] = x.Arms[k]
				arms[n].Next = to[arms[n].Next]
			}
			q.Points[to[j]] = api.Point{From: x.From, To: x.To, Arms: arms}
		}
		for _, role := range p.Roles {
			a, e := project.Role(p, role)
			b, f := project.Role(q, role)
			if e != f || !sketch.SameLocal(a, b) {
				t.Fatalf("P8.1: to %s, %v is %v, %d, and %v is %v, %d", role, p, a, e, q, b, f)
			}
		}
	}
}
