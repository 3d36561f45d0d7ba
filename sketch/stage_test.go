package sketch_test

import (
	"slices"
	"testing"

	"repartee/api"
	"repartee/sketch"
)

func TestStage(t *testing.T) {
	got := sketch.Stage("3 0", "01:x,y 11:z")
	want := api.Stage{At: []int{3, 0}, Mail: [][]string{nil, {"x", "y"}, nil, {"z"}}}
	if !sketch.SameStage(got, want) {
		t.Errorf("Stage = %v, want %v", got, want)
	}
	if !sketch.SameStage(sketch.CopyStage(got), want) || !sketch.SameStage(sketch.RoomyStage(got), want) {
		t.Error("a copy of the stage is another one")
	}
	if got := sketch.Stage("4 5 6", "20:x"); len(got.Mail) != 9 || !slices.Equal(got.Mail[6], []string{"x"}) {
		t.Error("the queue from role 2 to role 0:", got)
	}
}

func TestMoves(t *testing.T) {
	got := sketch.Moves("0!x 4?end")
	want := []api.Move{{Kind: api.Send, Label: "x"}, {Kind: api.Recv, Role: 4, Label: "end"}}
	if !slices.Equal(got, want) {
		t.Errorf("Moves = %v, want %v", got, want)
	}
}

// Each field makes a difference.
func TestSameStage(t *testing.T) {
	l := []api.Stage{{}, {Mail: make([][]string, 1)}, {At: []int{0}}, sketch.Stage("0", ""), sketch.Stage("1", ""), sketch.Stage("0", "00:x"), sketch.Stage("0", "00:y"), sketch.Stage("0", "00:x,x")}
	for _, mail := range []string{"", "01:x", "10:x", "01:x,y", "01:y,x", "01:x 10:y"} {
		l = append(l, sketch.Stage("0 0", mail), sketch.Stage("0 1", mail))
	}
	for i := range l {
		for j := range l {
			if sketch.SameStage(l[i], l[j]) != (i == j) {
				t.Errorf("SameStage(%v, %v) = %v", l[i], l[j], i != j)
			}
		}
	}
}

func TestSpoilStage(t *testing.T) {
	s := sketch.Stage("0 0", "01:x")
	c := sketch.CopyStage(s)
	queue, at := c.Mail[1], c.At
	sketch.SpoilStage(c)
	if queue[0] != "spoiled" || at[1] != -7 || len(c.Mail[0]) != 1 {
		t.Error("a list is not spoiled:", c, queue)
	}
	if !sketch.SameStage(s, sketch.Stage("0 0", "01:x")) {
		t.Error("a copy shares its memory:", s)
	}
	beyond := sketch.BeyondStage(sketch.RoomyStage(s))
	if len(beyond.At) != 2 || len(beyond.Mail) != 6 || len(beyond.Mail[3]) != 2 {
		t.Error("BeyondStage =", beyond)
	}
}

func TestApartStage(t *testing.T) {
	if !sketch.ApartStage(sketch.Stage("0 0", "00:x 01:x,y 11:z")) {
		t.Error("queues that share no memory are not apart")
	}
	letters := make([]string, 4)
	for _, parts := range [][2][2]int{{{0, 4}, {0, 4}}, {{0, 3}, {2, 4}}, {{0, 1}, {1, 2}}, {{0, 0}, {3, 4}}, {{1, 1}, {2, 2}}} {
		i, j := parts[0], parts[1]
		s := api.Stage{Mail: [][]string{letters[i[0]:i[1]], nil, letters[j[0]:j[1]], nil}}
		if sketch.ApartStage(s) {
			t.Errorf("the pieces %v and %v of one list are apart", i, j)
		}
	}
}
