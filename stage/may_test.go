package stage_test

import (
	"slices"
	"strconv"
	"strings"
	"testing"

	"repartee/api"
	"repartee/book"
	"repartee/sketch"
	"repartee/stage"
)

// rolesOf are the first n of more roles than there may be.
func rolesOf(n int) []string { return strings.Split("abcdefgh", "")[:n] }

// idle is a stage in which n roles are at node 0 and no letter is under way.
func idle(n int) api.Stage {
	return api.Stage{At: make([]int, n), Mail: make([][]string, n*n)}
}

func TestMayOfNumbersOfRoles(t *testing.T) {
	b := sketch.Book("", "b!x>0")
	for n := range 9 {
		if check(t, b, rolesOf(n), idle(n)) != (n >= 1 && n <= 5) {
			t.Errorf("P13.1: May with %d roles", n)
		}
		if checkBegin(t, b, rolesOf(n), make([]int, n)) != (n >= 1 && n <= 5) {
			t.Errorf("P13.1: Begin with %d roles", n)
		}
	}
}

// So many roles would have more queues than there is memory for.
func TestManyRoles(t *testing.T) {
	b := sketch.Book("", ".")
	var roles []string
	for i := range 1 << 20 {
		roles = append(roles, strconv.Itoa(i))
	}
	for _, roots := range [][]int{nil, {0}, make([]int, len(roles))} {
		if s, e := stage.Begin(b, roles, roots); e != api.ErrStageForm || len(s.At)+len(s.Mail) > 0 {
			t.Errorf("P13.1: Begin with many roles: %d", e)
		}
		s := api.Stage{At: roots, Mail: make([][]string, len(roles))}
		if stage.May(b, roles, s) || len(stage.Moves(b, roles, s)) > 0 || stage.Over(b, roles, s) {
			t.Error("P13.1: a stage of many roles is valid")
		}
	}
	if stage.May(b, slices.Repeat([]string{"a"}, 1<<20), idle(5)) {
		t.Error("P13.1: a stage of the same role many times is valid")
	}
}

func TestMayOfRolesThatComeTwice(t *testing.T) {
	b := sketch.Book("", "b!x>0")
	for n := 2; n <= 5; n++ {
		for i := range n {
			for j := range n {
				roles := rolesOf(n)
				roles[i] = roles[j]
				check(t, b, roles, idle(n))
				checkBegin(t, b, roles, make([]int, n))
				if stage.May(b, roles, idle(n)) != (i == j) {
					t.Errorf("P13.1: May with roles %q", roles)
				}
			}
		}
	}
}

// The roles need not be names.
func TestMayOfRolesThatAreNoNames(t *testing.T) {
	b := sketch.Book("", "b!x>0 a?x>1 .")
	for _, role := range sketch.NoNames() {
		for _, roles := range [][]string{{role}, {"a", role}, {role, "b"}, {"a", "b", role}} {
			if !check(t, b, roles, idle(len(roles))) || !checkBegin(t, b, roles, make([]int, len(roles))) {
				t.Errorf("P13.1: May with roles %q", roles)
			}
		}
	}
	for _, roles := range []string{"a A", "a aa", "aa a", "a a2", "ab a b"} {
		l := strings.Fields(roles)
		if !check(t, b, l, idle(len(l))) {
			t.Errorf("P13.1: May with roles %q", l)
		}
	}
}

func TestMayOfNumbersOfNodesAndQueues(t *testing.T) {
	b := sketch.Book("", "b!x>0")
	for n := 1; n <= 5; n++ {
		for at := range 8 {
			s := idle(n)
			s.At = make([]int, at)
			if check(t, b, rolesOf(n), s) != (at == n) || checkBegin(t, b, rolesOf(n), s.At) != (at == n) {
				t.Errorf("P13.1: May of %d roles and %d nodes", n, at)
			}
		}
		for mail := range 40 {
			s := idle(n)
			s.Mail = make([][]string, mail)
			if check(t, b, rolesOf(n), s) != (mail == n*n) {
				t.Errorf("P13.1: May of %d roles and %d queues", n, mail)
			}
		}
	}
	for _, s := range []api.Stage{{}, {At: []int{0}}, {Mail: make([][]string, 1)}, idle(1)} {
		if check(t, b, nil, s) {
			t.Error("P13.1: a stage without roles is valid:", s)
		}
	}
}

func TestMayOfNodes(t *testing.T) {
	for _, nodes := range []string{"", ".", "b!x>0", ". .", "b!x>1 . a?x>1"} {
		b := sketch.Book("", nodes)
		for n := 1; n <= 3; n++ {
			for i := range n {
				for at := range len(b.Nodes) {
					s := idle(n)
					s.At[i] = at
					if !check(t, b, rolesOf(n), s) || !checkBegin(t, b, rolesOf(n), s.At) {
						t.Errorf("P13.1: May of %v", s)
					}
				}
				for _, at := range sketch.OddIndices(b) {
					s := idle(n)
					s.At[i] = at
					if check(t, b, rolesOf(n), s) || checkBegin(t, b, rolesOf(n), s.At) {
						t.Errorf("P13.1: May of %v with %d nodes", s, len(b.Nodes))
					}
				}
			}
		}
	}
	b := sketch.Made(400, func(int) api.Node { return api.Node{} })
	if !check(t, b, rolesOf(2), api.Stage{At: []int{399, 0}, Mail: make([][]string, 4)}) || check(t, b, rolesOf(2), api.Stage{At: []int{0, 400}, Mail: make([][]string, 4)}) {
		t.Error("P13.1: May with a book of MaxNodes")
	}
}

// Each queue, also one from a role to itself, may have up to MaxMail letters, whatever they are.
func TestMayOfLetters(t *testing.T) {
	b := sketch.Book("", "b!x>0 a?x>1 .")
	for n := 1; n <= 5; n++ {
		for i := range n * n {
			for _, letters := range []int{0, 1, 63, 64, 65, 66, 1000} {
				s := idle(n)
				s.Mail[i] = slices.Repeat([]string{"x"}, letters)
				if check(t, b, rolesOf(n), s) != (letters <= 64) {
					t.Errorf("P13.1: May with %d letters in queue %d of %d roles", letters, i, n)
				}
			}
		}
		s := idle(n)
		for i := range s.Mail {
			s.Mail[i] = slices.Repeat([]string{"x"}, 64)
		}
		if !check(t, b, rolesOf(n), s) {
			t.Errorf("P13.1: May with full queues of %d roles", n)
		}
	}
	for _, label := range sketch.NoNames() {
		if s := (api.Stage{At: []int{0, 1}, Mail: [][]string{{label}, {label, label}, {label}, nil}}); !check(t, b, rolesOf(2), s) {
			t.Errorf("P13.1: May with a letter %q", label)
		}
	}
}

func TestInvalidBooks(t *testing.T) {
	for _, b := range append(sketch.Invalid(), api.Book{}) {
		for _, s := range []api.Stage{idle(1), idle(2), sketch.Stage("0 1", "01:x"), sketch.Stage("1 0", "")} {
			roles := rolesOf(len(s.At))
			if check(t, b, roles, s) || checkBegin(t, b, roles, s.At) {
				t.Errorf("P13.1: May of %v", b)
			}
		}
	}
}

// A book is asked for as a whole: names and roots, and nodes that no role can reach.
func TestBooksWithNames(t *testing.T) {
	b := sketch.Book("p.a=0 p.b=1", "b!x>2 a?x>2 . c?z:5.0>3")
	if !book.May(b) || !check(t, b, rolesOf(2), idle(2)) || !checkBegin(t, b, rolesOf(2), b.Roots) {
		t.Error("P13.1: a book with names")
	}
	for _, spoil := range []func(b *api.Book){
		func(b *api.Book) { b.Names[1] = "p.a" },
		func(b *api.Book) { b.Roots[1] = 4 },
		func(b *api.Book) { b.Roots = b.Roots[:1] },
		func(b *api.Book) { b.Nodes[3].Arms[0].Sort.At = 4 },
	} {
		c := sketch.Copy(b)
		spoil(&c)
		if check(t, c, rolesOf(2), idle(2)) || checkBegin(t, c, rolesOf(2), []int{0, 1}) {
			t.Errorf("P13.1: May of %v", c)
		}
	}
}
