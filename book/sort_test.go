package book_test

import (
	"strings"
	"testing"

	"repartee/api"
	"repartee/book"
	"repartee/sketch"
)

func TestRoot(t *testing.T) {
	b := sketch.Book("a=4 p.a=2 p.b=0 p1=3 p2.a=1 rest=2", "b!x:5.4>1 . b?x>2 c!y:3>3 .")
	for name, want := range map[string]int{"a": 4, "p.a": 2, "p.b": 0, "p1": 3, "p2.a": 1, "rest": 2} {
		if at, is := book.Root(b, name); at != want || !is {
			t.Errorf("P9.3: Root of %q = %d, %v", name, at, is)
		}
		if s, is := book.Sort(b, api.Carries{Kind: api.Chan, Name: name}); s != (api.Sort{Kind: api.Chan, At: want}) || !is {
			t.Errorf("P9.3: Sort of %q = %v, %v", name, s, is)
		}
	}
	for _, name := range []string{"", "p", "p.", ".a", "p.c", "p.A", "p2", "p2.b", "p.a.", "p.a ", "p.aa", "b", "res", "rest2", "z", "0", "\x00", "\xff", strings.Repeat("p", 1000)} {
		if at, is := book.Root(b, name); at != 0 || is {
			t.Errorf("P9.3: Root of %q, which is not there, = %d, %v", name, at, is)
		}
		if s, is := book.Sort(b, api.Carries{Kind: api.Chan, Name: name}); s != (api.Sort{}) || is {
			t.Errorf("P9.3: Sort of %q, which is not there, = %v, %v", name, s, is)
		}
	}
	checkBook(t, b)
}

func TestRootInBooksOfAllSizes(t *testing.T) {
	var b api.Book
	for i := range 42 {
		name := string(rune('a'+i/7)) + string(rune('0'+i%7))
		b.Nodes = append(b.Nodes, api.Node{})
		b.Names = append(b.Names, name)
		b.Roots = append(b.Roots, 41-i)
		for j := range b.Roots {
			b.Roots[j] = (j * 5) % (i + 1)
		}
		checkBook(t, b)
	}
}

// invalidBooks have all but one thing that makes a book with the names p.a and rest valid.
var invalidBooks = []api.Book{
	sketch.Book("p.a=0 rest=5", "b!x>1 ."),
	sketch.Book("p.a=-1 rest=0", "b!x>1 ."),
	sketch.Book("rest=0 p.a=0", "b!x>1 ."),
	sketch.Book("p.a=0 p.a=0 rest=0", "b!x>1 ."),
	sketch.Book("p.a=0 rest=0 rest=1", "b!x>1 ."),
	sketch.Book("p.a=0 rest=0", "b!x>2 ."),
	sketch.Book("p.a=0 rest=0", "b!x>1 . b!x>-1"),
	sketch.Book("p.a=0 rest=0", "b!y>1,x>1 ."),
	sketch.Book("p.a=0 rest=0", "b!x>1,x>1 ."),
	sketch.Book("p.a=0 rest=0", "b!x:6>1 ."),
	sketch.Book("p.a=0 rest=0", "b!x:1.1>1 ."),
	sketch.Book("p.a=0 rest=0", "b!x:5.2>1 ."),
	sketch.Book("p.a=0 rest=0", "b!x:5.-1>1 ."),
	sketch.Book("p.a=0 rest=0", "end!x>1 ."),
	sketch.Book("p.a=0 rest=0", "b!end>1 ."),
	sketch.Book("p.a=0 rest=0", "!x>1 ."),
	sketch.Book("p.a=0 rest=0", "b! ."),
	sketch.Book("p.a=0 rest=0", "b!a>1,b>1,c>1,d>1,e>1,f>1,g>1 ."),
	sketch.Book("p.a=0 rest=0", strings.Repeat(". ", 401)),
	{Names: []string{"p.a", "rest"}, Roots: []int{0, 0}},
	{Nodes: make([]api.Node, 2), Names: []string{"p.a", "rest"}, Roots: []int{0}},
	{Nodes: make([]api.Node, 2), Names: []string{"p.a", "rest"}, Roots: []int{0, 0, 0}},
	{Nodes: make([]api.Node, 2), Names: []string{"p.a", "rest"}},
	{Nodes: make([]api.Node, 2), Roots: []int{0, 0}},
	{Nodes: []api.Node{{}, {Kind: 3}}, Names: []string{"p.a", "rest"}, Roots: []int{0, 1}},
	{Nodes: []api.Node{{}, {Peer: "b"}}, Names: []string{"p.a", "rest"}, Roots: []int{0, 1}},
}

// In an invalid book no name is found, and the sorts that need none are as ever.
func TestInvalidBooks(t *testing.T) {
	for i, b := range invalidBooks {
		if checkBook(t, b) {
			t.Errorf("P9.1: invalid book %d: %v", i, b)
		}
		for _, name := range []string{"p.a", "rest"} {
			if at, is := book.Root(b, name); at != 0 || is {
				t.Errorf("P9.3: Root of %q in the invalid book %v = %d, %v", name, b, at, is)
			}
			if s, is := book.Sort(b, api.Carries{Kind: api.Chan, Name: name}); s != (api.Sort{}) || is {
				t.Errorf("P9.3: Sort of %q in the invalid book %v = %v, %v", name, b, s, is)
			}
		}
		for kind := api.Unit; kind < api.Chan; kind++ {
			if s, is := book.Sort(b, api.Carries{Kind: kind}); s != (api.Sort{Kind: kind}) || !is {
				t.Errorf("P9.3: Sort of %d in the invalid book %v = %v, %v", kind, b, s, is)
			}
		}
	}
}

func TestSort(t *testing.T) {
	for _, b := range []api.Book{{}, sketch.Book("p.a=0 p.b=1 rest=2", ". . .")} {
		for kind := api.Unit; kind < api.Chan; kind++ {
			if s, is := book.Sort(b, api.Carries{Kind: kind}); s != (api.Sort{Kind: kind}) || !is {
				t.Errorf("P9.3: Sort of %d = %v, %v", kind, s, is)
			}
		}
		for _, name := range []string{"", "rest", "p.a", "none"} {
			for kind := api.Unit; kind < api.Chan && name != ""; kind++ {
				if s, is := book.Sort(b, api.Carries{Kind: kind, Name: name}); s != (api.Sort{}) || is {
					t.Errorf("P9.3: Sort of %d with the name %q = %v, %v", kind, name, s, is)
				}
			}
			for _, kind := range oddInts {
				if s, is := book.Sort(b, api.Carries{Kind: kind, Name: name}); s != (api.Sort{}) || is {
					t.Errorf("P9.3: Sort of %d with the name %q = %v, %v", kind, name, s, is)
				}
			}
		}
		checkSort(t, b, api.Carries{Kind: api.Chan})
	}
	b := sketch.Book("rest=2", ". . .")
	if s, is := book.Sort(b, api.Carries{Kind: api.Chan, Name: "rest"}); s != (api.Sort{Kind: api.Chan, At: 2}) || !is {
		t.Errorf("P9.3: Sort of rest = %v, %v", s, is)
	}
	// A name may be empty.
	b.Names[0] = ""
	if s, is := book.Sort(b, api.Carries{Kind: api.Chan}); s != (api.Sort{Kind: api.Chan, At: 2}) || !is {
		t.Errorf("P9.3: Sort of the empty name = %v, %v", s, is)
	}
}
