package book_test

import (
	"math/rand"
	"slices"
	"strconv"
	"testing"

	"repartee/api"
	"repartee/book"
	"repartee/project"
	"repartee/sketch"
)

// draft draws protocols and local types. Each of its faults is there in some of the drafts only, so that all kinds of faults are the first one often enough.
type draft struct {
	r                                *rand.Rand
	form, twice, role, unknown, long bool
	names                            []string // of the parts
	known                            []string // what a Chan can be
}

func drafted(r *rand.Rand) *draft {
	d := &draft{r: r, names: []string{"p", "q", "s", "t", "p2", "pa", "p10", "rest", "rest2", "r", "r2", "r9", "r10", "a", "b", "c", "main", "z"}}
	for _, fault := range []*bool{&d.form, &d.twice, &d.role, &d.unknown, &d.long} {
		*fault = r.Intn(5) == 0
	}
	r.Shuffle(len(d.names), func(i, j int) { d.names[i], d.names[j] = d.names[j], d.names[i] })
	return d
}

func (d *draft) seldom() bool { return d.r.Intn(20) == 0 }

// parts draws up to 6 protocols and up to 12 local types, of which the names and roles are drawn first, as their arms may carry all of them.
func (d *draft) parts() ([]api.Protocol, []api.Local) {
	ps, ls := make([]api.Protocol, d.r.Intn(7)), make([]api.Local, d.r.Intn(13))
	for i := range ps {
		ps[i].Name = d.names[i]
		for _, k := range d.r.Perm(5)[:2+d.r.Intn(4)] {
			ps[i].Roles = append(ps[i].Roles, []string{"a", "b", "c", "a2", "e10"}[k])
			d.known = append(d.known, ps[i].Name+"."+ps[i].Roles[len(ps[i].Roles)-1])
		}
	}
	for i := range ls {
		ls[i].Name = d.names[6+i]
		d.known = append(d.known, ls[i].Name)
	}
	for i := range ps {
		d.draw(&ps[i])
	}
	for i := range ls {
		ls[i].Turns = d.turns(1 + d.r.Intn(1+d.r.Intn(12)))
		if d.long {
			ls[i].Turns = cycle("", 40, 0).Turns
		}
		if d.form && d.seldom() {
			ls[i].Turns = append(ls[i].Turns, api.Turn{Kind: 3})
		}
	}
	return ps, ls
}

// draw draws the points of a protocol, until it can be projected to all roles, or only once if that is a fault of the draft.
func (d *draft) draw(p *api.Protocol) {
	for {
		p.Points = d.points(p.Roles, 1+d.r.Intn(1+d.r.Intn(8)))
		_, _, e := project.All(*p)
		if e == api.OK || d.role {
			break
		}
	}
	if d.form && d.seldom() {
		p.Points = append(p.Points, api.Point{From: p.Roles[0]})
	}
	if d.twice && d.r.Intn(4) == 0 {
		p.Name = d.names[d.r.Intn(len(d.names))]
	}
}

func (d *draft) points(roles []string, n int) []api.Point {
	l := make([]api.Point, n)
	for i := range l {
		sides := d.r.Perm(len(roles))
		if d.r.Intn(4) > 0 {
			sides = []int{0, 1}
		}
		if d.r.Intn(4) > 0 {
			l[i] = api.Point{From: roles[sides[0]], To: roles[sides[1]], Arms: d.arms(n)}
		}
	}
	return l
}

func (d *draft) turns(n int) []api.Turn {
	l := make([]api.Turn, n)
	for i := range l {
		if d.r.Intn(4) > 0 {
			l[i] = api.Turn{Kind: 1 + d.r.Intn(2), Peer: []string{"a", "b", "z9"}[d.r.Intn(3)], Arms: d.arms(n)}
		}
	}
	return l
}

func (d *draft) arms(n int) []api.Arm {
	var l []api.Arm
	for _, k := range d.r.Perm(6)[:1+d.r.Intn(1+d.r.Intn(6))] {
		l = append(l, api.Arm{Label: []string{"x", "y", "z", "a", "x2", "x10"}[k], Carries: d.carries(), Next: d.r.Intn(n)})
	}
	return l
}

func (d *draft) carries() api.Carries {
	c := api.Carries{Kind: d.r.Intn(6)}
	switch {
	case c.Kind < api.Chan:
	case d.unknown && d.seldom():
		c.Name = []string{"none", "p.e", "p", "rest.a"}[d.r.Intn(4)]
	case len(d.known) > 0:
		c.Name = d.known[d.r.Intn(len(d.known))]
	default:
		c.Kind = api.Int
	}
	return c
}

func TestRandomBooks(t *testing.T) {
	r := rand.New(rand.NewSource(11))
	found := map[api.Errno]int{}
	for range 2000 {
		ps, ls := drafted(r).parts()
		_, f := check(t, ps, ls)
		found[f.Err]++
	}
	for _, e := range []api.Errno{api.OK, api.ErrBookForm, api.ErrBookTwice, api.ErrBookRole, api.ErrBookName, api.ErrBookLarge} {
		if found[e] < 30 {
			t.Errorf("too few of the random books are for error %d: %v", e, found)
		}
	}
}

// A book with one change is valid or not, as P9.1 says.
func TestRandomChangesOfBooks(t *testing.T) {
	r := rand.New(rand.NewSource(12))
	valid := map[bool]int{}
	for range 2000 {
		ps, ls := drafted(r).parts()
		b, _ := book.Of(ps, ls)
		change(r, &b)
		valid[checkBook(t, b)]++
	}
	if valid[true] < 300 || valid[false] < 300 {
		t.Error("too few of the random books are valid, or too few are not:", valid)
	}
}

// change changes one thing in a book, if it has what is to be changed.
func change(r *rand.Rand, b *api.Book) {
	at := func(n int) int { return r.Intn(n+3) - 1 }
	if len(b.Nodes) == 0 {
		return
	}
	n := &b.Nodes[r.Intn(len(b.Nodes))]
	i, k := r.Intn(len(b.Names)), r.Intn(len(n.Arms)+1)
	what := r.Intn(12)
	if what < 6 && k == len(n.Arms) {
		n.Kind = at(3)
		return
	}
	switch what {
	case 0:
		n.Arms[k].Label = []string{"", "a", "x", "x10", "zz", "end"}[r.Intn(6)]
	case 1:
		n.Arms[k].Next = at(len(b.Nodes))
	case 2, 3:
		n.Arms[k].Sort = api.Sort{Kind: at(5), At: r.Intn(2) * at(len(b.Nodes))}
	case 4:
		n.Arms = append(slices.Clone(n.Arms), api.Edge{Label: "y" + strconv.Itoa(r.Intn(3))})
	case 5:
		n.Arms = append(n.Arms[:k:k], n.Arms[k+1:]...)
	case 6:
		n.Peer = []string{"", "b", "to", "z9"}[r.Intn(4)]
	case 7:
		b.Roots[i] = at(len(b.Nodes))
	case 8:
		b.Names[i] = []string{"", "a", "p.a", "p2.a", "rest", "~"}[r.Intn(6)]
	case 9:
		b.Names = append(b.Names[:i:i], b.Names[i+1:]...)
	case 10:
		b.Names, b.Roots = append(b.Names[:i:i], b.Names[i+1:]...), append(b.Roots[:i:i], b.Roots[i+1:]...)
	case 11:
		b.Nodes = b.Nodes[:r.Intn(len(b.Nodes)+1)]
	}
}

// The book is the same whatever the order of arms is, and whatever is not reachable.
func TestTheOrderOfArmsIsNoMatter(t *testing.T) {
	r := rand.New(rand.NewSource(13))
	same := 0
	for range 500 {
		d := drafted(r)
		ps, ls := d.parts()
		want, fault := book.Of(ps, ls)
		if fault != (api.Fault{}) {
			continue
		}
		for i := range ps {
			for _, x := range ps[i].Points {
				r.Shuffle(len(x.Arms), func(j, k int) { x.Arms[j], x.Arms[k] = x.Arms[k], x.Arms[j] })
			}
			ps[i].Points = append(ps[i].Points, d.points(ps[i].Roles, len(ps[i].Points))...)
		}
		for i := range ls {
			for _, x := range ls[i].Turns {
				r.Shuffle(len(x.Arms), func(j, k int) { x.Arms[j], x.Arms[k] = x.Arms[k], x.Arms[j] })
			}
			if len(ls[i].Turns) <= api.MaxTurns/2 {
				ls[i].Turns = append(ls[i].Turns, d.turns(len(ls[i].Turns))...)
			}
		}
		// What is added may carry what is not there.
		if b, f := book.Of(ps, ls); f.Err != api.ErrBookName && (f != fault || !sketch.Same(b, want)) {
			t.Fatalf("P9.2: Of(%v, %v) = %v, %v, want %v", ps, ls, b, f, want)
		} else if f == fault {
			same++
		}
	}
	if same < 200 {
		t.Error("too few of the random books have no fault:", same)
	}
}
