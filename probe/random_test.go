package probe_test

import (
	"math/rand"
	"slices"
	"testing"

	"repartee/api"
	"repartee/probe"
	"repartee/sketch"
	"repartee/stage"
)

// tally counts what reports say.
type tally struct{ stuck, atOnce, far, whole, skipped, full int }

func (n *tally) add(r api.Report) {
	for _, c := range []struct {
		count *int
		is    bool
	}{
		{&n.stuck, r.Stuck}, {&n.atOnce, r.Stuck && len(r.Way) == 0}, {&n.far, len(r.Way) > 3}, {&n.whole, r.Whole && r.States > 5}, {&n.skipped, !r.Whole}, {&n.full, slices.Max(r.Long) == 64},
	} {
		if c.is {
			*c.count++
		}
	}
}

// Two roles at all pairs of small nodes, and both at one.
func TestAllSmallSessions(t *testing.T) {
	nodes := sketch.SmallNodes("a", "b")
	var n tally
	for _, x := range nodes {
		for _, y := range nodes {
			b := api.Book{Nodes: []api.Node{x, y}}
			for _, roots := range [][]int{{0, 1}, {1, 0}, {0, 0}, {1, 1}} {
				n.add(check(t, session{b, []string{"a", "b"}, roots}, 12, 1, 2, 3, 5))
			}
		}
	}
	if min(n.stuck, n.atOnce, n.skipped) < 500 || n.whole < 5 {
		t.Error("too few small sessions of a kind:", n)
	}
}

func TestRandomSessions(t *testing.T) {
	r := rand.New(rand.NewSource(18))
	var n tally
	for range 1200 {
		roles, b, roots := sketch.Draw(r.Intn).Session()
		q := session{b, roles, roots}
		n.add(check(t, q, 60, 1, 2, 4, 1+r.Intn(20), 1+r.Intn(60)))
		if r.Intn(30) == 0 {
			n.add(check(t, q, 400, 1+r.Intn(400)))
		}
	}
	if min(n.stuck, n.atOnce, n.whole, n.skipped) < 50 || n.far < 10 || n.full < 3 {
		t.Error("too few random sessions of a kind:", n)
	}
}

// Each limit has its own report.
func TestAllLimits(t *testing.T) {
	r := rand.New(rand.NewSource(19))
	for range 40 {
		roles, b, roots := sketch.Draw(r.Intn).Session()
		var limits []int
		for limit := range 80 {
			limits = append(limits, limit+1)
		}
		check(t, session{b, roles, roots}, limits...)
	}
}

// The order of the nodes does not matter, however many others there are, and that of the roles only to the order in which stages are found.
func TestTheOrderOfNodesAndRolesIsNoMatter(t *testing.T) {
	r := rand.New(rand.NewSource(20))
	whole := 0
	for range 400 {
		roles, b, roots := sketch.Draw(r.Intn).Session()
		want, _ := probe.Search(b, roles, roots, 150)
		more := sketch.Copy(b)
		for range r.Intn(388) {
			more.Nodes = append(more.Nodes, sketch.Node("z!z>0"))
		}
		order := r.Perm(len(more.Nodes))
		other := sketch.Reorder(more, order)
		moved := make([]int, len(roots))
		for i, root := range roots {
			moved[i] = order[root]
		}
		if got, e := probe.Search(other, roles, moved, 150); e != api.OK || !sameReport(got, want) {
			t.Fatalf("P14.2: Search(%v, %q, %v) = %v, and with the nodes in the order %v %v, %d", b, roles, roots, want, order, got, e)
		}
		if want.Whole {
			whole++
			checkRoles(t, r, session{b, roles, roots}, want)
		}
	}
	if whole < 40 {
		t.Error("too few searches are whole:", whole)
	}
}

// checkRoles checks that the stages of a session are as many and as long with the roles in another order.
func checkRoles(t *testing.T, r *rand.Rand, q session, want api.Report) {
	t.Helper()
	n := len(q.roles)
	places := r.Perm(n)
	p := session{q.b, make([]string, n), make([]int, n)}
	long := make([]int, n*n)
	for i, to := range places {
		p.roles[to], p.roots[to] = q.roles[i], q.roots[i]
		for j := range n {
			long[to*n+places[j]] = want.Long[i*n+j]
		}
	}
	got, e := probe.Search(p.b, p.roles, p.roots, 150)
	if e != api.OK || !got.Whole || got.States != want.States || got.Stuck != want.Stuck || len(got.Way) != len(want.Way) || !slices.Equal(got.Long, long) {
		t.Fatalf("P14.2: Search of %v = %v, and of %v %v, %d", q, want, p, got, e)
	}
}

// Play does the moves one by one, also those that Search does not look at.
func TestRandomWays(t *testing.T) {
	r := rand.New(rand.NewSource(21))
	wrong, far := 0, 0
	for range 2000 {
		roles, b, roots := sketch.Draw(r.Intn).Session()
		q := session{b, roles, roots}
		want, _ := stage.Begin(b, roles, roots)
		var way []int
		for range r.Intn(100) {
			moves := stage.Moves(b, roles, want)
			if len(moves) == 0 {
				break
			}
			i := r.Intn(len(moves))
			way = append(way, i)
			want, _ = stage.Do(b, roles, want, moves[i])
		}
		checkPlay(t, q, reached{want, way})
		if len(way) > 30 {
			far++
		}
		for i := range way {
			way[i] = r.Intn(5)
		}
		wrong += checkAnyWay(t, q, way)
	}
	if min(wrong, far) < 100 {
		t.Error("too few ways are wrong or long:", wrong, far)
	}
}

// checkAnyWay holds Play against stage.Do for a way that may be wrong, and returns 1 if it is, and otherwise 0.
func checkAnyWay(t *testing.T, q session, way []int) int {
	t.Helper()
	s, e := probe.Play(q.b, q.roles, q.roots, way)
	want, _ := stage.Begin(q.b, q.roles, q.roots)
	for _, i := range way {
		moves := stage.Moves(q.b, q.roles, want)
		if i >= len(moves) {
			if e != api.ErrProbeWay || len(s.At)+len(s.Mail) > 0 {
				t.Fatalf("P14.1: Play(%v, %v) = %v, %d", q, way, s, e)
			}
			return 1
		}
		want, _ = stage.Do(q.b, q.roles, want, moves[i])
	}
	if e != api.OK || !sketch.SameStage(s, want) {
		t.Fatalf("P14.1: Play(%v, %v) = %v, %d, want %v", q, way, s, e, want)
	}
	return 0
}
