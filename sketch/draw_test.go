package sketch_test

import (
	"fmt"
	"math/rand"
	"slices"
	"testing"

	"repartee/api"
	"repartee/book"
	"repartee/globe"
	"repartee/project"
	"repartee/sketch"
	"repartee/stage"
)

func TestSession(t *testing.T) {
	r := rand.New(rand.NewSource(1))
	var numbers, sizes [13]int
	for range 500 {
		roles, b, roots := sketch.Draw(r.Intn).Session()
		if _, e := stage.Begin(b, roles, roots); e != api.OK {
			t.Fatalf("no session begins with %v, %q and %v: %d", b, roles, roots, e)
		}
		numbers[len(roles)]++
		sizes[len(b.Nodes)]++
	}
	if slices.Contains(numbers[1:6], 0) || slices.Contains(sizes[1:], 0) {
		t.Error("numbers of roles and of nodes:", numbers, sizes)
	}
}

func TestDrawProtocol(t *testing.T) {
	r := rand.New(rand.NewSource(2))
	for _, roles := range [][]string{{"a", "b"}, {"a", "b", "c"}, {"e", "d", "c", "b", "a"}} {
		var sizes [9]int
		for range 200 {
			p := sketch.Draw(r.Intn).Protocol(roles, 8)
			if _, _, e := project.All(p); !globe.May(p) || len(roles) == 2 && e != api.OK {
				t.Fatalf("%v is not valid, or its two roles have no local types: %d", p, e)
			}
			sizes[len(p.Points)]++
		}
		if slices.Contains(sizes[1:], 0) {
			t.Error("numbers of points:", sizes)
		}
	}
}

// What is drawn depends on the numbers alone.
func TestDrawAgain(t *testing.T) {
	for seed := range int64(20) {
		var drawn []string
		for range 2 {
			draw := sketch.Draw(rand.New(rand.NewSource(seed)).Intn)
			roles, b, roots := draw.Session()
			drawn = append(drawn, fmt.Sprint(roles, b, roots, draw.Protocol([]string{"a", "b", "c"}, 8)))
		}
		if drawn[0] != drawn[1] {
			t.Error(drawn)
		}
	}
}

func TestSmallNodes(t *testing.T) {
	l := sketch.SmallNodes("a", "b", "c")
	if len(l) != 1+2*3*8 {
		t.Error(len(l), "nodes")
	}
	for i, n := range l {
		if !book.May(api.Book{Nodes: []api.Node{n, {}}}) {
			t.Errorf("%v is not valid", n)
		}
		if slices.ContainsFunc(l[:i], func(m api.Node) bool { return sketch.SameNodes([]api.Node{m}, l[i:i+1]) }) {
			t.Errorf("%v comes twice", n)
		}
	}
}

func TestProjectable(t *testing.T) {
	var numbers [6]int
	for _, p := range sketch.Projectable() {
		if _, _, e := project.All(p); e != api.OK {
			t.Errorf("%v is not projectable: %d", p, e)
		}
		numbers[len(p.Roles)]++
	}
	if slices.Contains(numbers[2:], 0) {
		t.Error("numbers of roles:", numbers)
	}
}
