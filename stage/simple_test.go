package stage_test

import (
	"slices"
	"testing"

	"repartee/api"
	"repartee/book"
	"repartee/sketch"
	"repartee/stage"
)

// simpleMay tells P13.1's May.
func simpleMay(b api.Book, roles []string, s api.Stage) bool {
	n := len(roles)
	if !book.May(b) || n == 0 || n > 5 || len(s.At) != n || len(s.Mail) != n*n {
		return false
	}
	for i, x := range roles {
		for j, y := range roles {
			if i != j && x == y {
				return false
			}
		}
	}
	for _, at := range s.At {
		if at < 0 || at > len(b.Nodes)-1 {
			return false
		}
	}
	for _, queue := range s.Mail {
		if len(queue) > 64 {
			return false
		}
	}
	return true
}

// way is a pair of names of roles: who sends, and to whom.
type way struct{ from, to string }

// queues tells the queues of a valid stage by the names of their roles.
func queues(roles []string, s api.Stage) map[way][]string {
	mail := map[way][]string{}
	for _, from := range roles {
		for _, to := range roles {
			mail[way{from, to}] = s.Mail[len(mail)]
		}
	}
	return mail
}

// staged is the stage with these nodes and queues.
func staged(roles []string, at []int, mail map[way][]string) api.Stage {
	s := api.Stage{At: at}
	for _, from := range roles {
		for _, to := range roles {
			s.Mail = append(s.Mail, mail[way{from, to}])
		}
	}
	return s
}

// simpleDo tells what becomes of a valid stage by a move, and whether it is possible: the queues are those of names here, and a move is tried.
func simpleDo(b api.Book, roles []string, s api.Stage, m api.Move) (api.Stage, bool) {
	if m.Role < 0 || m.Role >= len(roles) {
		return api.Stage{}, false
	}
	me, n := roles[m.Role], b.Nodes[s.At[m.Role]]
	i := slices.IndexFunc(n.Arms, func(e api.Edge) bool { return e.Label == m.Label })
	mail := queues(roles, s)
	to, from := way{me, n.Peer}, way{n.Peer, me}
	_, known := mail[to]
	if i < 0 || n.Kind != m.Kind || n.Peer == me || !known {
		return api.Stage{}, false
	}
	if m.Kind == 1 {
		if len(mail[to]) > 63 {
			return api.Stage{}, false
		}
		mail[to] = slices.Concat(mail[to], []string{m.Label})
	} else {
		if !slices.Equal(mail[from][:min(1, len(mail[from]))], []string{m.Label}) {
			return api.Stage{}, false
		}
		mail[from] = mail[from][1:]
	}
	at := slices.Clone(s.At)
	at[m.Role] = n.Arms[i].Next
	return staged(roles, at, mail), true
}

// labelsOf are all labels of a book's nodes and of a stage's letters, in ascending order.
func labelsOf(b api.Book, s api.Stage) []string {
	all := slices.Concat(s.Mail...)
	for _, n := range b.Nodes {
		for _, e := range n.Arms {
			all = append(all, e.Label)
		}
	}
	slices.Sort(all)
	return slices.Compact(all)
}

// simpleMoves tells the moves of a valid stage: those that succeed, of all that could be.
func simpleMoves(b api.Book, roles []string, s api.Stage) []api.Move {
	var l []api.Move
	for role := range roles {
		for _, kind := range []int{1, 2} {
			for _, label := range labelsOf(b, s) {
				m := api.Move{Kind: kind, Role: role, Label: label}
				if _, can := simpleDo(b, roles, s, m); can {
					l = append(l, m)
				}
			}
		}
	}
	return l
}

// simpleOver tells P13.3's Over of a valid stage.
func simpleOver(b api.Book, s api.Stage) bool {
	for _, at := range s.At {
		if b.Nodes[at].Kind != 0 {
			return false
		}
	}
	return len(slices.Concat(s.Mail...)) == 0
}

// odd are moves that are near to others, or far from all.
func odd(b api.Book, roles []string, s api.Stage) []api.Move {
	var l []api.Move
	for _, kind := range []int{-1, 0, 1, 2, 3} {
		for role := -1; role <= len(roles); role++ {
			for _, label := range append(labelsOf(b, s), "", "nobody", "X") {
				l = append(l, api.Move{Kind: kind, Role: role, Label: label})
			}
		}
	}
	return append(l, api.Move{Kind: 1, Role: 1 << 32, Label: "x"}, api.Move{Kind: 2, Role: -1 << 63, Label: "x"}, api.Move{Kind: 1<<32 + 1, Label: "x"})
}

// check holds what all functions say of a stage against the simple ones, checks what follows, and that nothing is changed. It returns whether the stage is valid.
func check(t *testing.T, b api.Book, roles []string, s api.Stage) bool {
	t.Helper()
	beforeBook, beforeRoles, before := sketch.Copy(b), slices.Clone(roles), sketch.CopyStage(s)
	valid := simpleMay(b, roles, s)
	if stage.May(b, roles, s) != valid {
		t.Fatalf("P13.1: May(%v, %q, %v) = %v", b, roles, s, !valid)
	}
	if valid {
		checkMoves(t, b, roles, s)
		if want := simpleOver(b, s); stage.Over(b, roles, s) != want {
			t.Fatalf("P13.3: Over(%v, %q, %v) = %v", b, roles, s, !want)
		}
		checkCommutes(t, b, roles, s)
	} else {
		checkNothing(t, b, roles, s)
	}
	if !stage.Same(s, s) || !stage.Same(s, before) || !stage.Same(before, s) {
		t.Fatalf("P13.3: %v is not the same as its copy", s)
	}
	if !sketch.Same(b, beforeBook) || !slices.Equal(roles, beforeRoles) || !sketch.SameStage(s, before) {
		t.Fatalf("P0.4: %v, %q or %v was changed to %v, %q, %v", beforeBook, beforeRoles, before, b, roles, s)
	}
	return valid
}

// checkMoves checks Moves and Do of a valid stage, also for moves that are not possible.
func checkMoves(t *testing.T, b api.Book, roles []string, s api.Stage) {
	t.Helper()
	want := simpleMoves(b, roles, s)
	for range 2 {
		if l := stage.Moves(b, roles, s); !slices.Equal(l, want) {
			t.Fatalf("P13.2: Moves(%v, %q, %v) = %v, want %v", b, roles, s, l, want)
		}
	}
	for _, m := range odd(b, roles, s) {
		wantStage, can := simpleDo(b, roles, s, m)
		next, e := stage.Do(b, roles, s, m)
		if can != slices.Contains(want, m) {
			t.Fatalf("the second implementation is not clear about %v in %v, %q, %v", m, b, roles, s)
		}
		if can && (e != api.OK || !sketch.SameStage(next, wantStage) || !stage.Same(next, wantStage) || !stage.May(b, roles, next)) {
			t.Fatalf("P13.2: Do(%v, %q, %v, %v) = %v, %d, want %v", b, roles, s, m, next, e, wantStage)
		}
		if !can && (e != api.ErrStageMove || len(next.At)+len(next.Mail) > 0) {
			t.Fatalf("P13.2: Do(%v, %q, %v, %v) = %v, %d", b, roles, s, m, next, e)
		}
	}
}

// checkCommutes checks P13.4 of a valid stage. To a full queue no Send is possible, so there is no exception for moves that both are.
func checkCommutes(t *testing.T, b api.Book, roles []string, s api.Stage) {
	t.Helper()
	moves := stage.Moves(b, roles, s)
	for _, m := range moves {
		for _, n := range moves {
			if m.Role == n.Role {
				continue
			}
			one, e1 := stage.Do(b, roles, s, m)
			one, e2 := stage.Do(b, roles, one, n)
			two, e3 := stage.Do(b, roles, s, n)
			two, e4 := stage.Do(b, roles, two, m)
			if e1 != 0 || e2 != 0 || e3 != 0 || e4 != 0 || !stage.Same(one, two) || !sketch.SameStage(one, two) {
				t.Fatalf("P13.4: the moves %v and %v of %v, %q, %v lead to %v and %v", m, n, b, roles, s, one, two)
			}
		}
	}
}

// checkNothing checks that an invalid stage has no moves, cannot be moved and is not over.
func checkNothing(t *testing.T, b api.Book, roles []string, s api.Stage) {
	t.Helper()
	if l := stage.Moves(b, roles, s); len(l) > 0 {
		t.Fatalf("P13.2: Moves of the invalid stage %v, %q, %v = %v", b, roles, s, l)
	}
	if stage.Over(b, roles, s) {
		t.Fatalf("P13.3: the invalid stage %v, %q, %v is over", b, roles, s)
	}
	for _, m := range append(sketch.Moves("0!x 0?x 1!x 1?x 1!y 5!x"), api.Move{}, api.Move{Kind: 1, Role: -1, Label: "x"}) {
		if next, e := stage.Do(b, roles, s, m); e != api.ErrStageForm || len(next.At)+len(next.Mail) > 0 {
			t.Fatalf("P13.2: Do(%v, %q, %v, %v) = %v, %d", b, roles, s, m, next, e)
		}
	}
}

// checkBegin holds what Begin says against the stage without letters, and returns whether there is one.
func checkBegin(t *testing.T, b api.Book, roles []string, roots []int) bool {
	t.Helper()
	beforeBook, beforeRoles, before := sketch.Copy(b), slices.Clone(roles), slices.Clone(roots)
	want := api.Stage{At: roots}
	// More roles than may be have no stage, whatever the number of its queues is.
	want.Mail = make([][]string, min(len(roles), 6)*min(len(roles), 6))
	can := simpleMay(b, roles, want)
	for range 2 {
		s, e := stage.Begin(b, roles, roots)
		if can && (e != api.OK || !sketch.SameStage(s, want)) {
			t.Fatalf("P13.1: Begin(%v, %q, %v) = %v, %d", b, roles, roots, s, e)
		}
		if !can && (e != api.ErrStageForm || len(s.At)+len(s.Mail) > 0) {
			t.Fatalf("P13.1: Begin(%v, %q, %v) = %v, %d", b, roles, roots, s, e)
		}
	}
	if !sketch.Same(b, beforeBook) || !slices.Equal(roles, beforeRoles) || !slices.Equal(roots, before) {
		t.Fatalf("P0.4: %v, %q or %v was changed", beforeBook, beforeRoles, before)
	}
	return can
}
