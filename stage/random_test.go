package stage_test

import (
	"math/rand"
	"slices"
	"testing"

	"repartee/api"
	"repartee/sketch"
	"repartee/stage"
)

// Two roles at all pairs of small nodes, and both at one, with no letters and with some.
func TestAllSmallStages(t *testing.T) {
	mails := []string{"", "01:x", "01:y", "01:x,y 00:x", "10:x", "10:y,x", "01:x 10:x", "01:y,x 10:y 11:y"}
	roles := rolesOf(2)
	nodes := sketch.SmallNodes("a", "b", "c")
	seen := map[int]int{}
	for _, x := range nodes {
		for _, y := range nodes {
			b := api.Book{Nodes: []api.Node{x, y}}
			for _, mail := range mails {
				for _, at := range []string{"0 1", "1 0", "0 0", "1 1"} {
					s := sketch.Stage(at, mail)
					if !checkSmall(t, b, roles, s) {
						t.Fatalf("P13.1: %v of %v is invalid", s, b)
					}
					seen[len(stage.Moves(b, roles, s))]++
				}
			}
		}
	}
	for n := range 5 {
		if seen[n] < 100 {
			t.Error("too few small stages have so many moves:", seen)
		}
	}
}

// checkSmall is check with the moves alone that are possible.
func checkSmall(t *testing.T, b api.Book, roles []string, s api.Stage) bool {
	t.Helper()
	want := simpleMoves(b, roles, s)
	if l := stage.Moves(b, roles, s); !slices.Equal(l, want) {
		t.Fatalf("P13.2: Moves(%v, %q, %v) = %v, want %v", b, roles, s, l, want)
	}
	for _, m := range want {
		next, _ := simpleDo(b, roles, s, m)
		if got, e := stage.Do(b, roles, s, m); e != api.OK || !sketch.SameStage(got, next) {
			t.Fatalf("P13.2: Do(%v, %q, %v, %v) = %v, %d, want %v", b, roles, s, m, got, e, next)
		}
	}
	checkCommutes(t, b, roles, s)
	if over := simpleOver(b, s); stage.Over(b, roles, s) != over || over && len(want) > 0 {
		t.Fatalf("P13.3: Over(%v, %q, %v) = %v", b, roles, s, !over)
	}
	return stage.May(b, roles, s)
}

func pick[T any](r *rand.Rand, l ...T) T { return l[r.Intn(len(l))] }

// drawnStage is a valid stage with letters in all queues.
func drawnStage(r *rand.Rand, b api.Book, n int) api.Stage {
	s := idle(n)
	for i := range s.At {
		s.At[i] = r.Intn(len(b.Nodes))
	}
	for i := range s.Mail {
		for range pick(r, 0, 0, 1, 2, 5, 63, 64) {
			s.Mail[i] = append(s.Mail[i], pick(r, "x", "x2", "y", "z", "x", "y", "w", ""))
		}
	}
	return s
}

func TestRandomStages(t *testing.T) {
	r := rand.New(rand.NewSource(13))
	for range 1500 {
		roles, b, _ := sketch.Draw(r.Intn).Session()
		s := drawnStage(r, b, len(roles))
		if !check(t, b, roles, s) || !checkBegin(t, b, roles, s.At) {
			t.Fatalf("P13.1: %v of %v, %q is invalid", s, b, roles)
		}
		spoilOne(r, &b, &roles, &s)
		if check(t, b, roles, s) {
			t.Fatalf("P13.1: %v of %v, %q is valid", s, b, roles)
		}
		checkBegin(t, b, roles, s.At)
	}
}

// spoilOne hurts one condition of a valid stage.
func spoilOne(r *rand.Rand, b *api.Book, roles *[]string, s *api.Stage) {
	i, j := r.Intn(len(s.At)), r.Intn(len(s.Mail))
	switch r.Intn(9) {
	case 0:
		b.Nodes[r.Intn(len(b.Nodes))] = api.Node{Kind: 3}
	case 1:
		*roles = append(*roles, (*roles)[i])
	case 2:
		*roles = (*roles)[:i]
	case 3:
		s.At[i] = pick(r, sketch.OddIndices(*b)...)
	case 4:
		s.At = s.At[:i]
	case 5:
		s.At = append(s.At, 0)
	case 6:
		s.Mail = s.Mail[:j]
	case 7:
		s.Mail = append(s.Mail, nil)
	case 8:
		s.Mail[j] = slices.Repeat([]string{"x"}, 65+i)
	}
}

// What a role hears from another one is, in its order, what that one said, and the rest is under way.
func TestRandomPlays(t *testing.T) {
	r := rand.New(rand.NewSource(14))
	played := 0
	for range 600 {
		roles, b, roots := sketch.Draw(r.Intn).Session()
		s, e := stage.Begin(b, roles, roots)
		if e != api.OK {
			t.Fatalf("P13.1: Begin: %d", e)
		}
		said, heard := map[way][]string{}, map[way][]string{}
		for range 80 {
			checkSmall(t, b, roles, s)
			moves := stage.Moves(b, roles, s)
			if len(moves) == 0 {
				break
			}
			m := pick(r, moves...)
			me, peer := roles[m.Role], b.Nodes[s.At[m.Role]].Peer
			if m.Kind == api.Send {
				said[way{me, peer}] = append(said[way{me, peer}], m.Label)
			} else {
				heard[way{peer, me}] = append(heard[way{peer, me}], m.Label)
			}
			s, _ = stage.Do(b, roles, s, m)
			played++
		}
		for w, queue := range queues(roles, s) {
			if !slices.Equal(said[w], slices.Concat(heard[w], queue)) {
				t.Fatalf("P13.2: %v: said %q, heard %q, and %q is under way", w, said[w], heard[w], queue)
			}
		}
	}
	if played < 3000 {
		t.Error("too few moves:", played)
	}
}

// The same stages with the roles in another order, and with the nodes in another order, have the same moves.
func TestTheOrderOfRolesAndNodesIsNoMatter(t *testing.T) {
	r := rand.New(rand.NewSource(15))
	for range 800 {
		roles, b, _ := sketch.Draw(r.Intn).Session()
		s := drawnStage(r, b, len(roles))
		order, places := r.Perm(len(b.Nodes)), r.Perm(len(roles))
		c, other, z := sketch.Reorder(b, order), make([]string, len(roles)), idle(len(roles))
		for i, role := range roles {
			other[places[i]] = role
			z.At[places[i]] = order[s.At[i]]
			for j := range roles {
				z.Mail[places[i]*len(roles)+places[j]] = s.Mail[i*len(roles)+j]
			}
		}
		moves, others := stage.Moves(b, roles, s), stage.Moves(c, other, z)
		for i, m := range moves {
			moves[i].Role = places[m.Role]
		}
		slices.SortStableFunc(moves, func(x, y api.Move) int { return x.Role - y.Role })
		if !slices.Equal(moves, others) {
			t.Fatalf("P13.2: the moves of %v, %q, %v are %v, and of %v, %q, %v %v", b, roles, s, moves, c, other, z, others)
		}
		if stage.Over(b, roles, s) != stage.Over(c, other, z) {
			t.Fatalf("P13.3: Over of %v, %q, %v and of %v, %q, %v", b, roles, s, c, other, z)
		}
	}
}
