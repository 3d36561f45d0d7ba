package probe_test

import (
	"math"
	"slices"
	"testing"

	"repartee/api"
	"repartee/probe"
	"repartee/sketch"
	"repartee/stage"
)

// played tells for a session and a way the nodes and the letters to which it leads, or nothing if there is no such way.
var played = []struct{ what, roles, nodes, roots, way, at, mail string }{
	{"no moves", "a b", "b!x>2 a?x>2 .", "0 1", "", "0 1", ""},
	{"one move", "a b", "b!x>2 a?x>2 .", "0 1", "0", "2 1", "01:x"},
	{"two moves", "a b", "b!x>2 a?x>2 .", "0 1", "0 0", "2 2", ""},
	{"one move too many", "a b", "b!x>2 a?x>2 .", "0 1", "0 0 0", "", ""},
	{"a move with a wrong index", "a b", "b!x>2 a?x>2 .", "0 1", "1", "", ""},
	{"a move with a negative index", "a b", "b!x>2 a?x>2 .", "0 1", "-1", "", ""},
	{"a wrong index, and moves behind it", "a b", "b!x>2 a?x>2 .", "0 1", "1 0 0", "", ""},
	{"a wrong index behind a move", "a b", "b!x>2 a?x>2 .", "0 1", "0 1", "", ""},

	{"the first of three labels", "a b", "b!x>1,y>2,z>3 . . .", "0 1", "0", "1 1", "01:x"},
	{"the second of three labels", "a b", "b!x>1,y>2,z>3 . . .", "0 1", "1", "2 1", "01:y"},
	{"the third of three labels", "a b", "b!x>1,y>2,z>3 . . .", "0 1", "2", "3 1", "01:z"},
	{"the fourth of three labels", "a b", "b!x>1,y>2,z>3 . . .", "0 1", "3", "", ""},
	{"the document's example, with a ahead", "a b", "b!x>1 b?y>4 a!y>3 a?x>4 .", "0 2", "0 0 0 0", "4 4", ""},
	{"the document's example, with b ahead", "a b", "b!x>1 b?y>4 a!y>3 a?x>4 .", "0 2", "1 0 1 0", "4 4", ""},
	{"the document's example, half", "a b", "b!x>1 b?y>4 a!y>3 a?x>4 .", "0 2", "1 0 1", "1 4", "10:y"},
	{"each index counts among the moves where it stands", "a b", "b!x>0,y>3 a?x>2 a?x>1,y>3 .", "0 1", "0 2 0 0 2 1 0 0", "3 3", ""},
	{"letters ahead", "a b", "b!x>0,y>2 a?x>1,y>2 .", "0 1", "0 0 0 2", "0 1", "01:x,x"},
	{"no move, as the peer is no role", "a b", "c!x>0 .", "0 1", "0", "", ""},
	{"no move, as the letter is not expected", "a b", "b!y>2 a?x>2 .", "0 1", "0 0", "", ""},
	{"no moves at an End", "a", ".", "0", "", "0", ""},
	{"one move at an End", "a", ".", "0", "0", "", ""},
	{"three in a ring", "a b c", "b!x>3 c!y>3 a!z>3 .", "0 1 2", "2 1 0", "3 3 3", "01:x 12:y 20:z"},
	{"roles that are no names", "A b", "b!x>1 .", "0 1", "0", "1 1", "01:x"},
}

func TestPlayByHand(t *testing.T) {
	for _, c := range played {
		q, way := sketched(c.roles, c.nodes, c.roots), sketch.Numbers(c.way)
		want, errno := sketch.Stage(c.at, c.mail), api.OK
		if c.at == "" {
			want, errno = api.Stage{}, api.ErrProbeWay
		}
		for range 2 {
			s, e := probe.Play(q.b, q.roles, q.roots, way)
			if e != errno || !sketch.SameStage(s, want) {
				t.Errorf("P14.1: %s: Play = %v, %d, want %v, %d", c.what, s, e, want, errno)
			}
		}
		check(t, q, 1, 40)
	}
}

// A way may be long: a queue is filled and emptied again and again.
func TestLongWays(t *testing.T) {
	q := sketched("a b", "b!x>0,y>0 a?x>1,y>1", "0 1")
	// While letters are under way and there is room there are three moves; in a full queue only one.
	fill, empty := slices.Repeat([]int{0, 1}, 32), append([]int{0}, slices.Repeat([]int{2}, 62)...)
	var way []int
	for range 20 {
		way = slices.Concat(way, fill, empty)
		if s, e := probe.Play(q.b, q.roles, q.roots, way); e != api.OK || !sketch.SameStage(s, sketch.Stage("0 1", "01:y")) {
			t.Fatalf("P14.1: Play of %d moves = %v, %d", len(way), s, e)
		}
		way = append(way, 2)
		if s, e := probe.Play(q.b, q.roles, q.roots, way); e != api.OK || !sketch.SameStage(s, sketch.Stage("0 1", "")) {
			t.Fatalf("P14.1: Play of %d moves = %v, %d", len(way), s, e)
		}
	}
	full := slices.Concat(way, fill)
	if s, e := probe.Play(q.b, q.roles, q.roots, full); e != api.OK || len(s.Mail[1]) != 64 || s.Mail[1][0] != "x" || s.Mail[1][63] != "y" {
		t.Errorf("P14.1: Play to a full queue = %v, %d", s, e)
	}
	for _, wrong := range []int{1, 2, 3} {
		if s, e := probe.Play(q.b, q.roles, q.roots, append(full, wrong)); e != api.ErrProbeWay || len(s.At) > 0 {
			t.Errorf("P14.1: Play with move %d at a full queue = %v, %d", wrong, s, e)
		}
	}
}

// Of all numbers only those of the moves are taken, whatever comes behind them.
func TestNoOtherMoves(t *testing.T) {
	q := sketched("a b", "b!x>2,y>2 a?x>2,y>2 .", "0 1")
	for _, ahead := range [][]int{nil, {0}, {1}, {0, 0}, {1, 0}} {
		s, _ := probe.Play(q.b, q.roles, q.roots, ahead)
		n := len(stage.Moves(q.b, q.roles, s))
		for _, i := range []int{-4, -3, -2, -1, 0, 1, 2, 3, 4, 64, 1 << 31, 1 << 32, 1<<32 + 1, -1 << 32, math.MinInt, math.MinInt + 1, math.MaxInt} {
			for _, more := range [][]int{nil, {0}, {0, 0, 0, 0}} {
				way := slices.Concat(ahead, []int{i}, more)
				// No way is longer than two moves.
				can := i >= 0 && i < n && len(way) <= 2
				if s, e := probe.Play(q.b, q.roles, q.roots, way); (e == api.OK) != can || !can && (e != api.ErrProbeWay || len(s.At)+len(s.Mail) > 0) {
					t.Errorf("P14.1: Play(%v) = %v, %d", way, s, e)
				}
			}
		}
	}
}

// What stage.Begin refuses, neither Search nor Play takes.
func TestInvalidSessions(t *testing.T) {
	const nodes = "b!x>2 a?x>2 ."
	for _, c := range []struct{ roles, roots string }{
		{"", ""}, {"", "0"}, {"a", ""}, {"a b", "0"}, {"a b", "0 1 2"}, {"a a", "0 1"}, {"a b a", "0 1 2"}, {"a b c d e f", "0 0 0 0 0 0"}, {"a b c d e e", "0 0 0 0 0 0"}, {"a b", "0 3"}, {"a b", "-1 1"},
	} {
		checkInvalid(t, sketched(c.roles, nodes, c.roots))
	}
	b := sketch.Book("", nodes)
	for _, odd := range sketch.OddIndices(b) {
		checkInvalid(t, session{b, []string{"a", "b"}, []int{0, odd}})
		checkInvalid(t, session{b, []string{"a", "b"}, []int{odd, 1}})
	}
	for _, invalid := range append(sketch.Invalid(), api.Book{}) {
		checkInvalid(t, session{invalid, []string{"a", "b"}, []int{0, 0}})
		checkInvalid(t, session{invalid, []string{"a"}, []int{0}})
	}
	// A book is asked for as a whole: also where no role can come.
	b.Nodes = append(b.Nodes, api.Node{Kind: 3})
	checkInvalid(t, session{b, []string{"a", "b"}, []int{0, 1}})
	many := slices.Repeat([]string{"a"}, 1<<16)
	checkInvalid(t, session{sketch.Book("", nodes), many, make([]int, len(many))})
}
