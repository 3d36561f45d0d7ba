package stage_test

import (
	"slices"
	"strings"
	"testing"

	"repartee/api"
	"repartee/sketch"
	"repartee/stage"
)

var isOver = []struct {
	what, roles, nodes, at, mail string
	want                         bool
}{
	{"one role at an End", "a", ".", "0", "", true},
	{"one role at a Send", "a", "b!x>0", "0", "", false},
	{"one role at a Recv", "a", "b?x>0", "0", "", false},
	{"two roles at one End", "a b", ".", "0 0", "", true},
	{"two roles at two Ends", "a b", "b!x>0 . .", "1 2", "", true},
	{"the first role is at no End", "a b", "b!x>1 .", "0 1", "", false},
	{"the last role is at no End", "a b", "a?x>1 .", "1 0", "", false},
	{"no role is at an End", "a b", "a?x>1 .", "0 0", "", false},
	{"the role in the middle is at no End", "a b c", "a?x>1 .", "1 0 1", "", false},
	{"five roles at an End", "a b c d e", ".", "0 0 0 0 0", "", true},
	{"the last of five roles is at no End", "a b c d e", ". a!x>0", "0 0 0 0 1", "", false},
	{"a letter is under way", "a b", ".", "0 0", "01:x", false},
	{"a letter back is under way", "a b", ".", "0 0", "10:x", false},
	{"a letter to itself is under way", "a b", ".", "0 0", "00:x", false},
	{"a letter to itself is under way, the last role's", "a b", ".", "0 0", "11:x", false},
	{"one role's letter to itself is under way", "a", ".", "0", "00:x", false},
	{"no End, and a letter is under way", "a b", "b!x>0", "0 0", "01:x", false},
	{"a role that cannot go on, but is at no End", "a b", "nobody!x>0 .", "0 1", "", false},
	{"roles that are no names", "A B", ".", "0 0", "", true},
	{"roles that come twice", "a a", ".", "0 0", "", false},
	{"a role without a node", "a b", ".", "0", "", false},
	{"a node without a role", "a", ".", "0 0", "", false},
	{"no roles", "", ".", "", "", false},
	{"six roles", "a b c d e f", ".", "0 0 0 0 0 0", "", false},
	{"no such node", "a b", ".", "0 1", "", false},
	{"an invalid book", "a", ". b!x>2", "0", "", false},
}

func TestOverByHand(t *testing.T) {
	for _, c := range isOver {
		b, roles, s := sketch.Book("", c.nodes), strings.Fields(c.roles), sketch.Stage(c.at, c.mail)
		for range 2 {
			if stage.Over(b, roles, s) != c.want {
				t.Errorf("P13.3: %s: Over = %v", c.what, !c.want)
			}
		}
		check(t, b, roles, s)
	}
}

func TestOverOfEachQueue(t *testing.T) {
	b := sketch.Book("", ".")
	for n := 1; n <= 5; n++ {
		if !stage.Over(b, rolesOf(n), idle(n)) {
			t.Errorf("P13.3: %d idle roles are not over", n)
		}
		for i := range n * n {
			for _, queue := range [][]string{{"x"}, {""}, {"x", "y"}, slices.Repeat([]string{"x"}, 64), slices.Repeat([]string{"x"}, 65)} {
				s := idle(n)
				s.Mail[i] = queue
				if stage.Over(b, rolesOf(n), s) {
					t.Errorf("P13.3: %d roles with letters in queue %d are over", n, i)
				}
			}
		}
	}
}

// distinct are stages, valid or not, of which no two are the same.
func distinct() []api.Stage {
	l := []api.Stage{
		{}, {At: []int{0}}, {At: []int{-1}}, {At: []int{0, 0}}, {Mail: make([][]string, 1)}, {Mail: make([][]string, 2)}, {Mail: [][]string{{""}}}, {Mail: [][]string{{"x"}}}, {Mail: [][]string{{"x"}, nil}}, {Mail: [][]string{nil, {"x"}}},
		sketch.Stage("0", ""), sketch.Stage("1", ""), sketch.Stage("0", "00:x"), sketch.Stage("0 0", ""), sketch.Stage("0 1", ""), sketch.Stage("1 0", ""), sketch.Stage("1 1", ""), sketch.Stage("0 0 0", ""),
		{At: []int{0, 0}, Mail: make([][]string, 3)}, {At: []int{0, 0}, Mail: make([][]string, 5)}, {At: []int{0, 0, 0}, Mail: make([][]string, 4)},
		{At: []int{0, 0}, Mail: [][]string{nil, {""}, nil, nil}}, {At: []int{0, 0}, Mail: [][]string{nil, {"", ""}, nil, nil}}, {At: []int{0, 0}, Mail: [][]string{nil, {"x y"}, nil, nil}}, {At: []int{0, 0}, Mail: [][]string{nil, {"x\x00"}, nil, nil}},
		{At: []int{0, 0}, Mail: [][]string{nil, slices.Repeat([]string{"x"}, 64), nil, nil}}, {At: []int{0, 0}, Mail: [][]string{nil, slices.Repeat([]string{"x"}, 65), nil, nil}},
		{At: []int{0, 1 << 32}, Mail: make([][]string, 4)}, {At: []int{0, -1 << 63}, Mail: make([][]string, 4)},
	}
	for _, mail := range []string{"00:x", "01:x", "10:x", "11:x", "01:y", "01:X", "01:xx", "01:x,x", "01:x,y", "01:y,x", "01:xy", "01:x 10:y", "01:y 10:x", "01:x,y 10:z", "01:x 10:y,z", "01:x,y,z", "01:x,z,y"} {
		l = append(l, sketch.Stage("0 0", mail), sketch.Stage("0 1", mail))
	}
	return l
}

func TestSameOfDistinctStages(t *testing.T) {
	l := distinct()
	for i, x := range l {
		for j, y := range l {
			before := []api.Stage{sketch.CopyStage(x), sketch.CopyStage(y)}
			for range 2 {
				if stage.Same(x, y) != (i == j) || stage.Same(x, sketch.CopyStage(y)) != (i == j) {
					t.Errorf("P13.3: Same(%v, %v) = %v", x, y, i != j)
				}
			}
			if !sketch.SameStage(x, before[0]) || !sketch.SameStage(y, before[1]) {
				t.Errorf("P0.4: %v was changed to %v, %v", before, x, y)
			}
		}
	}
}

// Nothing but At and Mail counts: no book, and no memory beyond the lists.
func TestSameOfRoomyStages(t *testing.T) {
	for _, s := range distinct() {
		if roomy := sketch.RoomyStage(s); !stage.Same(s, roomy) || !stage.Same(roomy, s) || !stage.Same(roomy, sketch.RoomyStage(s)) {
			t.Errorf("P13.3: %v is not the same with memory beyond its lists", s)
		}
	}
	nils, empties := api.Stage{At: []int{0, 0}, Mail: make([][]string, 4)}, api.Stage{At: []int{0, 0}, Mail: [][]string{{}, {}, {}, {}}}
	if !stage.Same(nils, empties) || !stage.Same(empties, nils) || !stage.Same(api.Stage{}, api.Stage{At: []int{}, Mail: [][]string{}}) {
		t.Error("P0.4: nil and an empty list are told apart by Same")
	}
}
