package stage_test

import (
	"slices"
	"strings"
	"testing"

	"repartee/api"
	"repartee/sketch"
	"repartee/stage"
)

// moved tells for a stage its moves, separated by semicolons, each with the nodes and the queues behind it.
var moved = []struct{ what, roles, nodes, at, mail, want string }{
	{"the document's example", "a b", "b!x>2 a?x>3 . .", "0 1", "", "0!x/2 1/01:x"},
	{"the document's example, after that move", "a b", "b!x>2 a?x>3 . .", "2 1", "01:x", "1?x/2 3/"},
	{"the document's example, at its end", "a b", "b!x>2 a?x>3 . .", "2 3", "", ""},
	{"one End", "a", ".", "0", "", ""},
	{"one role, with no other one", "a", "b!x>0", "0", "", ""},

	{"a Send of one label", "a b", "b!x>1 .", "0 1", "", "0!x/1 1/01:x"},
	{"a Send that goes on where it is", "a b", "b!x>0 .", "0 1", "", "0!x/0 1/01:x"},
	{"a Send of three labels", "a b", "b!x>1,y>2,z>0 . .", "0 1", "", "0!x/1 1/01:x; 0!y/2 1/01:y; 0!z/0 1/01:z"},
	{"a Send of six labels", "a b", "b!a>0,aa>1,b>0,c>1,x>0,x2>1 .", "0 1", "", "0!a/0 1/01:a; 0!aa/1 1/01:aa; 0!b/0 1/01:b; 0!c/1 1/01:c; 0!x/0 1/01:x; 0!x2/1 1/01:x2"},
	{"a Send with data and with an end", "a b", "b!x:1>1,y:5.0>1 .", "0 1", "", "0!x/1 1/01:x; 0!y/1 1/01:y"},
	{"a Send behind letters", "a b", "b!x>1 .", "0 1", "01:y,x", "0!x/1 1/01:y,x,x"},
	{"a Send beside other letters", "a b", "b!x>1 .", "0 1", "00:y 10:x 11:z", "0!x/1 1/00:y 01:x 10:x 11:z"},
	{"a Send that waits for no one", "a b", "b!x>1 a!x>0", "0 1", "", "0!x/1 1/01:x; 1!x/0 0/10:x"},

	{"a Recv of the only letter", "a b", "b?x>1 .", "0 1", "10:x", "0?x/1 1/"},
	{"a Recv of the first letter", "a b", "b?x>1,y>0 .", "0 1", "10:y,x", "0?y/0 1/10:x"},
	{"a Recv of the first of equal letters", "a b", "b?x>1,y>0 .", "0 1", "10:x,x,y", "0?x/1 1/10:x,y"},
	{"a Recv without a letter", "a b", "b?x>1 .", "0 1", "", ""},
	{"a Recv whose first letter is none of its labels", "a b", "b?x>1 .", "0 1", "10:y,x", ""},
	{"a Recv whose first letter begins like its label", "a b", "b?x>1 .", "0 1", "10:x2", ""},
	{"a Recv whose label begins like the first letter", "a b", "b?x2>1 .", "0 1", "10:x", ""},
	{"a Recv whose first letter differs in case", "a b", "b?x>1 .", "0 1", "10:X", ""},
	{"a Recv of the last of its labels", "a b", "b?x>1,y>1,z>0 .", "0 1", "10:z", "0?z/0 1/"},
	{"a Recv whose own letters are under way", "a b", "b?x>1 .", "0 1", "01:x", ""},
	{"a Recv whose letters to itself are under way", "a b", "b?x>1 .", "0 1", "00:x 11:x", ""},
	{"a Recv beside other letters", "a b", "b?x>1 .", "0 1", "00:y 01:x 10:x 11:z", "0?x/1 1/00:y 01:x 11:z"},

	{"a Send to no role", "a b", "c!x>1 .", "0 1", "", ""},
	{"a Send to itself", "a b", "a!x>1 .", "0 1", "", ""},
	{"a Send to itself with letters", "a b", "a!x>1 .", "0 1", "00:x 01:x 10:x 11:x", ""},
	{"a Recv from no role", "a b", "c?x>1 .", "0 1", "00:x 01:x 10:x 11:x", ""},
	{"a Recv from itself", "a b", "a?x>1 .", "0 1", "00:x 01:x 10:x 11:x", ""},
	{"a Send to a role that begins like another one", "a bb", "b!x>1 .", "0 1", "", ""},
	{"an End with letters", "a b", ". .", "0 1", "00:x 01:x 10:x 11:x", ""},
	{"the others go on beside one that cannot", "a b c", "nobody!x>3 c!x>3 b?x>3 .", "0 1 2", "12:x", "1!x/0 3 2/12:x,x; 2?x/0 1 3/"},

	{"both roles at one node", "a b", "b!x>0 .", "0 0", "", "0!x/0 0/01:x"},
	{"both roles at one node that receives", "b a", "b?x>1 .", "0 0", "01:x 10:x", "1?x/0 1/10:x"},
	{"the role that stands second comes second", "a b", "b!y>0,z>0 a!x>1", "0 1", "", "0!y/0 1/01:y; 0!z/0 1/01:z; 1!x/0 1/10:x"},
	{"the role that stands first comes first", "b a", "b!y>0,z>0 a!x>1", "1 0", "", "0!x/1 0/01:x; 1!y/1 0/10:y; 1!z/1 0/10:z"},
	{"a Recv ahead of a Send", "b a", "a?x>2 b!x>2 .", "0 1", "10:x", "0?x/2 1/; 1!x/0 2/10:x,x"},
	{"the nodes count, not the order in which they are", "a b", ". . b!x>1 a?x>0", "2 3", "01:x", "0!x/1 3/01:x,x; 1?x/2 0/"},

	{"three roles in a ring", "a b c", "b!x>3 c!y>3 a!z>3 .", "0 1 2", "", "0!x/3 1 2/01:x; 1!y/0 3 2/12:y; 2!z/0 1 3/20:z"},
	{"three roles in a ring, that receive", "a b c", "c?z>3 a?x>3 b?y>3 .", "0 1 2", "01:x 12:y 20:z", "0?z/3 1 2/01:x 12:y; 1?x/0 3 2/12:y 20:z; 2?y/0 1 3/01:x 20:z"},
	{"a Recv from one of two", "a b c", "b?x>1 .", "0 1 1", "20:x", ""},
	{"a Recv from the other of two", "a b c", "c?x>1 .", "0 1 1", "10:y 20:x", "0?x/1 1 1/10:y"},
	{"two that send to one", "a b c", "c!x>2 b?x>2 .", "0 0 1", "", "0!x/2 0 1/02:x; 1!x/0 2 1/12:x"},
	{"two that receive from one", "a b c", "a?x>1 .", "1 0 0", "01:x 02:x", "1?x/1 1 0/02:x; 2?x/1 0 1/01:x"},

	{"roles that are no names", "A b.c", "b!x>0 .", "0 0", "", ""},
	{"a role that is no name, and another one sends", "A b c", "c!x>1 .", "0 0 1", "", "0!x/1 0 1/02:x; 1!x/0 1 1/12:x"},
}

// steps are the moves of a stage, as the table tells them, and the stages behind them.
func steps(t *testing.T, want string) ([]api.Move, []api.Stage) {
	t.Helper()
	var moves []api.Move
	var stages []api.Stage
	for _, text := range strings.FieldsFunc(want, func(r rune) bool { return r == ';' }) {
		parts := strings.Split(text, "/")
		moves = append(moves, sketch.Moves(parts[0])...)
		stages = append(stages, sketch.Stage(parts[1], parts[2]))
	}
	return moves, stages
}

func TestMovesByHand(t *testing.T) {
	for _, c := range moved {
		b, roles, s := sketch.Book("", c.nodes), strings.Fields(c.roles), sketch.Stage(c.at, c.mail)
		moves, stages := steps(t, c.want)
		for range 2 {
			if l := stage.Moves(b, roles, s); !slices.Equal(l, moves) {
				t.Errorf("P13.2: %s: Moves = %v, want %v", c.what, l, moves)
			}
			for i, m := range moves {
				if next, e := stage.Do(b, roles, s, m); e != api.OK || !sketch.SameStage(next, stages[i]) {
					t.Errorf("P13.2: %s: Do of %v = %v, %d, want %v", c.what, m, next, e, stages[i])
				}
			}
		}
		if !check(t, b, roles, s) {
			t.Errorf("P13.1: %s: the stage is invalid", c.what)
		}
		for _, next := range stages {
			check(t, b, roles, next)
		}
	}
}

// The Peer of an End is empty, but so may be the name of a role.
func TestAnEmptyRole(t *testing.T) {
	b := sketch.Book("", ". b!x>0")
	for _, at := range []string{"0 0", "0 1", "1 0", "1 1"} {
		s := sketch.Stage(at, "00:x 01:x 10:x 11:x")
		for _, roles := range [][]string{{"", "a"}, {"a", ""}} {
			if l := stage.Moves(b, roles, s); len(l) > 0 {
				t.Errorf("P13.2: moves %v of roles %q at %s", l, roles, at)
			}
			check(t, b, roles, s)
		}
		for _, roles := range [][]string{{"", "b"}, {"b", ""}} {
			check(t, b, roles, s)
		}
	}
}

// Each role sends to and receives from each other one: every queue has its place.
func TestEveryQueue(t *testing.T) {
	for n := 2; n <= 5; n++ {
		roles := rolesOf(n)
		for from := range n {
			for to := range n {
				if from == to {
					continue
				}
				b := api.Book{Nodes: []api.Node{{}, sketch.Node(roles[to] + "!x>0"), sketch.Node(roles[from] + "?x>0")}}
				s := idle(n)
				s.At[from], s.At[to] = 1, 2
				want := sketch.CopyStage(s)
				want.At[from] = 0
				want.Mail[from*n+to] = []string{"x"}
				next := do(t, b, roles, s, api.Move{Kind: 1, Role: from, Label: "x"})
				if !sketch.SameStage(next, want) {
					t.Errorf("P13.2: from role %d to role %d of %d: %v", from, to, n, next)
				}
				if l := stage.Moves(b, roles, next); !slices.Equal(l, []api.Move{{Kind: 2, Role: to, Label: "x"}}) {
					t.Errorf("P13.2: from role %d to role %d of %d: moves %v", from, to, n, l)
				}
				last := do(t, b, roles, next, api.Move{Kind: 2, Role: to, Label: "x"})
				if !sketch.SameStage(last, idle(n)) || !stage.Over(b, roles, last) {
					t.Errorf("P13.2: from role %d to role %d of %d: %v", from, to, n, last)
				}
				// A letter in any other queue is not received.
				for i := range n * n {
					other := idle(n)
					other.At[to], other.Mail[i] = 2, []string{"x"}
					if l := stage.Moves(b, roles, other); (len(l) == 1) != (i == from*n+to) {
						t.Errorf("P13.2: moves %v of %v", l, other)
					}
					check(t, b, roles, other)
				}
			}
		}
	}
}

// do returns the stage after these moves, each of which must be possible.
func do(t *testing.T, b api.Book, roles []string, s api.Stage, moves ...api.Move) api.Stage {
	t.Helper()
	for _, m := range moves {
		check(t, b, roles, s)
		if !slices.Contains(stage.Moves(b, roles, s), m) {
			t.Fatalf("P13.2: %v is not possible in %v, %q, %v", m, b, roles, s)
		}
		next, e := stage.Do(b, roles, s, m)
		if e != api.OK {
			t.Fatalf("P13.2: Do(%v, %q, %v, %v): %d", b, roles, s, m, e)
		}
		s = next
	}
	check(t, b, roles, s)
	return s
}

// A queue is full with MaxMail letters: then nothing can be sent to it, until one is received.
func TestFullQueues(t *testing.T) {
	b, roles := sketch.Book("", "b!x>0,y>0 a?x>1,y>1 a!z>2 b?z>3"), rolesOf(2)
	s := sketch.Stage("0 1", "")
	send, receive := sketch.Moves("0!x 0!y"), sketch.Moves("1?x")
	for letters := range 65 {
		want := slices.Concat(send, receive)
		if letters == 0 {
			want = send
		}
		if letters == 64 {
			want = receive
		}
		if l := stage.Moves(b, roles, s); !slices.Equal(l, want) {
			t.Errorf("P13.2: with %d letters the moves are %v", letters, l)
		}
		if letters < 64 {
			s = do(t, b, roles, s, send[min(letters, 1)])
		}
	}
	for _, m := range send {
		if next, e := stage.Do(b, roles, s, m); e != api.ErrStageMove || len(next.At)+len(next.Mail) > 0 {
			t.Errorf("P13.2: Do of %v where the queue is full: %d", m, e)
		}
	}
	s = do(t, b, roles, s, receive[0])
	if l := stage.Moves(b, roles, s); len(s.Mail[1]) != 63 || s.Mail[1][0] != "y" || !slices.Equal(l, sketch.Moves("0!x 0!y 1?y")) {
		t.Errorf("P13.2: where the queue was full: %v, moves %v", s, l)
	}
	s = do(t, b, roles, s, send[0])
	if l := stage.Moves(b, roles, s); len(s.Mail[1]) != 64 || s.Mail[1][63] != "x" || !slices.Equal(l, sketch.Moves("1?y")) {
		t.Errorf("P13.2: where the queue is full again: %v, moves %v", s, l)
	}
}

// It is the queue to the peer that counts, and no other one.
func TestOtherQueuesThatAreFull(t *testing.T) {
	b, roles := sketch.Book("", "b!x>0 ."), rolesOf(3)
	for i := range 9 {
		for _, letters := range []int{63, 64} {
			s := sketch.Stage("0 1 1", "")
			s.Mail[i] = slices.Repeat([]string{"y"}, letters)
			can := i != 1 || letters < 64
			if l := stage.Moves(b, roles, s); (len(l) == 1) != can {
				t.Errorf("P13.2: moves %v with %d letters in queue %d", l, letters, i)
			}
			check(t, b, roles, s)
		}
	}
}

// The letters of one queue are received in the order in which they were sent, whatever is done between.
func TestLettersKeepTheirOrder(t *testing.T) {
	b, roles := sketch.Book("", "b!x>0,y>0,z>0 a?x>1,y>1,z>1"), rolesOf(2)
	sent := strings.Split("xyzzyxxyxzyz", "")
	for ahead := 1; ahead <= len(sent); ahead++ {
		s := sketch.Stage("0 1", "")
		var heard []string
		hear := func() {
			label := s.Mail[1][0]
			s = do(t, b, roles, s, api.Move{Kind: 2, Role: 1, Label: label})
			heard = append(heard, label)
		}
		for i, label := range sent {
			s = do(t, b, roles, s, api.Move{Kind: 1, Role: 0, Label: label})
			if i+1 >= ahead {
				hear()
			}
		}
		for len(s.Mail[1]) > 0 {
			hear()
		}
		if !slices.Equal(heard, sent) {
			t.Errorf("P13.2: sent %q, heard %q", sent, heard)
		}
	}
}

// Of all that a move can be, with Kinds, roles and labels near to those that are possible, Do takes the moves alone.
func TestNoOtherMoves(t *testing.T) {
	b, roles := sketch.Book("", "b!x>3,y>3 a?x>3,z>3 b?x>3 ."), rolesOf(3)
	s := sketch.Stage("0 1 2", "01:z,x 12:x 21:x")
	want := sketch.Moves("0!x 0!y 1?z 2?x")
	if l := stage.Moves(b, roles, s); !slices.Equal(l, want) {
		t.Fatal("P13.2: Moves =", l)
	}
	for kind := -3; kind < 8; kind++ {
		for role := -5; role < 12; role++ {
			for _, label := range []string{"x", "y", "z", "", "X", "x ", "xx", "end", "b"} {
				m := api.Move{Kind: kind, Role: role, Label: label}
				next, e := stage.Do(b, roles, s, m)
				if can := slices.Contains(want, m); (e == api.OK) != can || !can && e != api.ErrStageMove || (len(next.At) == 3) != can {
					t.Errorf("P13.2: Do of %v = %v, %d", m, next, e)
				}
			}
		}
	}
}

// Two roles go through all nodes of a book of MaxNodes: one through the even nodes, one through the odd ones.
func TestMaxNodes(t *testing.T) {
	b, roles := sketch.Made(400, func(i int) api.Node {
		x := sketch.To((i+2)%400, i, "x")
		if i%2 == 1 {
			x.Kind, x.Peer = api.Recv, "a"
		}
		return x
	}), rolesOf(2)
	s := sketch.Stage("0 1", "")
	for i := range 200 {
		sent, e := stage.Do(b, roles, s, sketch.Moves("0!x")[0])
		if want := (api.Stage{At: []int{(2*i + 2) % 400, 2*i + 1}, Mail: [][]string{nil, {"x"}, nil, nil}}); e != api.OK || !sketch.SameStage(sent, want) {
			t.Fatalf("P13.2: at node %d: %v, %d", s.At[0], sent, e)
		}
		s, e = stage.Do(b, roles, sent, sketch.Moves("1?x")[0])
		if want := (api.Stage{At: []int{(2*i + 2) % 400, (2*i + 3) % 400}, Mail: make([][]string, 4)}); e != api.OK || !sketch.SameStage(s, want) {
			t.Fatalf("P13.2: at node %d: %v, %d", sent.At[1], s, e)
		}
	}
	if !stage.Same(s, sketch.Stage("0 1", "")) {
		t.Errorf("P13.3: after all nodes: %v", s)
	}
}
