package probe_test

import (
	"fmt"
	"math"
	"slices"
	"strings"
	"testing"

	"repartee/api"
	"repartee/probe"
	"repartee/sketch"
	"repartee/stage"
)

// searched tells of a session what Search reports: whether a stage is stuck ("no", "at once", or the way to it), and the greatest length of each queue.
var searched = []struct {
	what, roles, nodes, roots string
	most, states              int
	whole                     bool
	stuck, long               string
}{
	{"the document's example", "a b", "b!x>1 b?y>4 a!y>3 a?x>4 .", "0 2", 4000, 7, true, "no", "0 1 1 0"},
	{"the same, with as many stages as may be", "a b", "b!x>1 b?y>4 a!y>3 a?x>4 .", "0 2", 7, 7, true, "no", "0 1 1 0"},
	{"the same, with one too many", "a b", "b!x>1 b?y>4 a!y>3 a?x>4 .", "0 2", 6, 6, false, "no", "0 1 1 0"},
	{"the same, with one place", "a b", "b!x>1 b?y>4 a!y>3 a?x>4 .", "0 2", 1, 1, false, "no", "0 0 0 0"},
	{"the same, with two places", "a b", "b!x>1 b?y>4 a!y>3 a?x>4 .", "0 2", 2, 2, false, "no", "0 1 0 0"},

	{"one role that is over at once", "a", ".", "0", 4000, 1, true, "no", "0"},
	{"five roles that are over at once", "a b c d e", ".", "0 0 0 0 0", 1, 1, true, "no", "0 0 0 0 0 0 0 0 0 0 0 0 0 0 0 0 0 0 0 0 0 0 0 0 0"},
	{"a letter that is sent and received", "a b", "b!x>2 a?x>2 .", "0 1", 4000, 3, true, "no", "0 1 0 0"},
	{"a letter from the second role to the first", "a b", "b?x>2 a!x>2 .", "0 1", 4000, 3, true, "no", "0 0 1 0"},
	{"a loop", "a b", "b!x>1 b?y>0 a?x>3 a!y>2", "0 2", 4000, 4, true, "no", "0 1 1 0"},
	{"a loop, with one place too few", "a b", "b!x>1 b?y>0 a?x>3 a!y>2", "0 2", 3, 3, false, "no", "0 1 0 0"},
	{"a choice of two that leads to one stage", "a b", "b!x>2,y>2 a?x>2,y>2 .", "0 1", 4000, 4, true, "no", "0 1 0 0"},
	{"the same, with as many places: what is met again is not skipped", "a b", "b!x>2,y>2 a?x>2,y>2 .", "0 1", 4, 4, true, "no", "0 1 0 0"},
	{"two pairs, one beside the other", "a b c d", "b!x>4 a?x>4 d!x>4 c?x>4 .", "0 1 2 3", 4000, 9, true, "no", "0 1 0 0 0 0 0 0 0 0 0 1 0 0 0 0"},
	{"three in a ring", "a b c", "b!x>1 c?x>6 a?x>3 c!x>6 b?x>5 a!x>6 .", "0 2 4", 4000, 7, true, "no", "0 1 0 0 0 1 1 0 0"},
	{"two letters ahead", "a b", "b!x>1 b!y>4 a?x>3 a?y>4 .", "0 2", 4000, 6, true, "no", "0 2 0 0"},

	{"one role that waits", "a", "b?x>0", "0", 4000, 1, true, "at once", "0"},
	{"one role that has nobody to send to", "a", "b!x>0", "0", 1, 1, true, "at once", "0"},
	{"two that wait for one another", "a b", "b?y>1 b!x>4 a?x>3 a!y>4 .", "0 2", 4000, 1, true, "at once", "0 0 0 0"},
	{"a letter that nobody receives", "a b", "b!x>1 .", "0 1", 4000, 2, true, "0", "0 1 0 0"},
	{"a letter that is not expected", "a b", "b!x>2,y>2 a?x>2 .", "0 1", 4000, 4, true, "1", "0 1 0 0"},
	{"the last of six letters is not expected", "a b", "b!a>2,b>2,c>2,d>2,e>2,f>2 a?a>2,b>2,c>2,d>2,e>2 .", "0 1", 4000, 8, true, "5", "0 1 0 0"},
	{"a role at an End, and one that is not", "a b", "b!x>1 a?x>2 . a?x>2", "0 3", 4000, 3, true, "0 0", "0 1 0 0"},
	{"only the last stage is stuck", "a b", "b!x>1 b!x>4 a?x>3 a?x>3 .", "0 2", 4000, 6, true, "0 0 0 0", "0 2 0 0"},

	{"two ways to a stuck stage: that on which it is first met", "a b c", "c!x>1 .", "0 0 1", 4000, 4, true, "0 0", "0 0 1 0 0 1 0 0 0"},
	{"two stuck stages: the nearer one", "a b", "b!x>1,y>2 b!p>3 c!q>2 .", "0 3", 4000, 4, true, "1", "0 2 0 0"},
	{"two stuck stages, as near: the one first met", "a b", "b!x>1,y>1,z>1 .", "0 1", 4000, 4, true, "0", "0 1 0 0"},
	{"two stuck stages, as near: the one behind what was first met", "a b", "b!x>1,y>2 b!v>3,w>3 b!u>3 .", "0 3", 4000, 6, true, "0 0", "0 2 0 0"},
	{"a stuck stage with no place for it", "a b", "b!x>1,y>2 b!p>3 c!q>2 .", "0 3", 2, 2, false, "no", "0 1 0 0"},
	{"a stuck stage in the last place, where another one was skipped before", "a b", "b!x>1,y>2 b!p>3 c!q>2 .", "0 3", 3, 3, false, "1", "0 1 0 0"},
	{"a stuck stage in the last place, and no other", "a b", "b!x>1 .", "0 1", 2, 2, true, "0", "0 1 0 0"},

	{"a queue that is full", "a b", "b!x>0 .", "0 1", 4000, 65, false, "no", "0 64 0 0"},
	{"a queue that is full, in the last place", "a b", "b!x>0 .", "0 1", 65, 65, false, "no", "0 64 0 0"},
	{"a queue that would be full with one place more", "a b", "b!x>0 .", "0 1", 64, 64, false, "no", "0 63 0 0"},
	{"full queues to a role that receives", "a b", "b!x>0 a?x>1", "0 1", 4000, 65, false, "no", "0 64 0 0"},
	{"a full queue back", "b a", "b!x>0 a?x>1", "1 0", 4000, 65, false, "no", "0 0 64 0"},
	{"a full queue, and a stage that is stuck before", "a b", "b!x>0,y>1 .", "0 1", 4000, 129, false, "1", "0 64 0 0"},

	{"labels that make one text", "a b", "b!a>1,ab>2 b!bc>3 b!c>3 .", "0 3", 4000, 5, true, "0 0", "0 2 0 0"},
	{"labels that make one text, with two letters and with one", "a b", "b!a>1,ab>2 b!b>2 .", "0 2", 4000, 4, true, "1", "0 2 0 0"},
	{"one letter in one queue or in another one", "a b c", "b!p>1,q>2 b!x>4 c!x>4 a?p>4,q>4 .", "0 3 4", 4000, 9, true, "0 0 0", "0 2 1 0 0 0 0 0 0"},
	{"nodes that make one number", "a b c d", ". c!x>13 . . . . . . . . . . d!x>14 c?k>11 d?k>2 a?x>16 a!k>15 b?x>18 b!k>17", "1 12 15 17", 4000, 25, true, "0 0 0 0 0 0 0 0", "0 0 1 0 0 0 0 1 1 0 0 0 0 1 0 0"},

	{"roles that are no names", "A b.c", "b!x>0", "0 0", 4000, 1, true, "at once", "0 0 0 0"},
	{"a role that is no name, and another one sends", "A b", "b!x>1 .", "0 1", 4000, 2, true, "0", "0 1 0 0"},
	{"nodes that no role can reach do not matter", "a b", "c?z>0 b!x>4 . a?x>4 . b!y>0,z>1", "1 3", 4000, 3, true, "no", "0 1 0 0"},
	{"two roles that begin at one node", "a b", "b!x>1 .", "0 0", 4000, 2, true, "0", "0 1 0 0"},
	{"what the letters carry does not matter", "a b", "b!x:1>2,y:5.0>2 a?x:3>2,y:5.2>2 .", "0 1", 4000, 4, true, "no", "0 1 0 0"},
}

// way is the way of the table to a stuck stage, and whether there is one.
func way(stuck string) ([]int, bool) {
	if stuck == "at once" {
		return nil, true
	}
	return sketch.Numbers(strings.TrimPrefix(stuck, "no")), stuck != "no"
}

func TestSearchByHand(t *testing.T) {
	for _, c := range searched {
		q := sketched(c.roles, c.nodes, c.roots)
		want := api.Report{States: c.states, Whole: c.whole, Long: sketch.Numbers(c.long)}
		want.Way, want.Stuck = way(c.stuck)
		for range 2 {
			if r, e := probe.Search(q.b, q.roles, q.roots, c.most); e != api.OK || !sameReport(r, want) {
				t.Errorf("P14.2: %s: Search = %v, %d, want %v", c.what, r, e, want)
			}
		}
		check(t, q, c.most, 1, 2, 3, 5, 100)
	}
}

// row is the text of n nodes from this one on, which do the same, and of which each leads to the next one.
func row(first, n int, does string) string {
	var text strings.Builder
	for i := range n {
		fmt.Fprintf(&text, "%s>%d ", does, first+i+1)
	}
	return text.String()
}

// chain is a book in which node 0 and those that follow it send n letters to a role, and the last node is the End.
func chain(n int, to string) api.Book { return sketch.Book("", row(0, n, to+"!x")+".") }

// With 63 letters that nobody receives a stage is stuck; with 64 the queue is full, so it is not.
func TestFullQueuesAreNotStuck(t *testing.T) {
	for n := 60; n < 68; n++ {
		q := session{chain(n, "b"), []string{"a", "b"}, []int{0, n}}
		most := min(n, 64)
		want := api.Report{States: most + 1, Whole: n < 64, Stuck: n < 64, Long: []int{0, most, 0, 0}}
		if n < 64 {
			want.Way = make([]int, n)
		}
		if r, e := probe.Search(q.b, q.roles, q.roots, 4000); e != api.OK || !sameReport(r, want) {
			t.Errorf("P14.2: %d letters: Search = %v, %d, want %v", n, r, e, want)
		}
		check(t, q, 4000, n, n+1, n-1)
	}
}

// Behind a full queue the search goes on: a tells c when it has sent n letters, c tells b, and only then b receives them, and may have to wait for one more.
func TestStagesBehindAFullQueue(t *testing.T) {
	for _, n := range []int{62, 63, 64, 65} {
		for _, last := range []string{".", "a?z>0"} {
			sender := row(0, n, "b!x") + row(n, 1, "c!g") + ". "
			teller := row(n+2, 1, "a?g") + fmt.Sprintf("b!g>%d ", n+1)
			receiver := row(n+4, 1, "c?g") + row(n+5, n, "a?x") + last
			q := session{sketch.Book("", sender+teller+receiver), []string{"a", "b", "c"}, []int{0, n + 4, n + 2}}
			r := check(t, q, 4000, 200, n, n+1)
			want := api.Report{States: 2*n + 5, Whole: n < 64, Stuck: last != ".", Long: []int{0, n, 1, 0, 0, 0, 0, 1, 0}}
			if want.Stuck {
				want.Way = make([]int, 2*n+4)
			}
			if n == 65 {
				// The last letter cannot be sent, and nobody goes on.
				want = api.Report{States: 65, Long: []int{0, 64, 0, 0, 0, 0, 0, 0, 0}}
			}
			if !sameReport(r, want) {
				t.Errorf("P14.2: %d letters, then %s: %v, want %v", n, last, r, want)
			}
		}
	}
}

// What one full queue does is the same for each queue.
func TestEveryQueueThatIsFull(t *testing.T) {
	for n := 2; n <= 5; n++ {
		roles := strings.Split("abcde", "")[:n]
		for from := range n {
			for to := range n {
				if from == to {
					continue
				}
				for _, letters := range []int{63, 64} {
					q := session{chain(letters, roles[to]), roles, slices.Repeat([]int{letters}, n)}
					q.roots[from] = 0
					r, e := probe.Search(q.b, q.roles, q.roots, 100)
					if e != api.OK || r.States != letters+1 || r.Whole != (letters < 64) || r.Stuck != (letters < 64) {
						t.Errorf("P14.2: %d letters from %d to %d of %d: %v, %d", letters, from, to, n, r, e)
					}
					want := make([]int, n*n)
					want[from*n+to] = letters
					if !slices.Equal(r.Long, want) {
						t.Errorf("P14.2: %d letters from %d to %d of %d: Long %v", letters, from, to, n, r.Long)
					}
				}
			}
		}
	}
}

// Three roles send 39, 9 and some letters to a fourth one: each number of letters with each other ones makes a stage, and the one with all letters is stuck.
func TestMaxSearch(t *testing.T) {
	b := chain(39, "d")
	roles := strings.Fields("a b c d")
	for _, c := range []struct {
		letters, most, states int
		whole, stuck          bool
	}{
		{9, 4000, 4000, true, true}, {9, 3999, 3999, false, false}, {10, 4000, 4000, false, false}, {8, 4000, 3600, true, true}, {8, 3600, 3600, true, true}, {0, 399, 399, false, false},
	} {
		q := session{b, roles, []int{0, 30, 39 - c.letters, 39}}
		r, e := probe.Search(q.b, q.roles, q.roots, c.most)
		if e != api.OK || r.States != c.states || r.Whole != c.whole || r.Stuck != c.stuck {
			t.Errorf("P14.2: with %d letters of c and %d stages at most: %v, %d", c.letters, c.most, r, e)
		}
		// The first way to it is that on which the roles go one behind the other.
		if c.stuck && !slices.Equal(r.Way, make([]int, 39+9+c.letters)) {
			t.Errorf("P14.2: with %d letters of c the way is %v", c.letters, r.Way)
		}
	}
	check(t, session{b, roles, []int{0, 30, 30, 39}}, 4000, 3999, 1000)
}

// Two roles go through all nodes of a book of MaxNodes: one through the even nodes, one through the odd ones.
func TestMaxNodes(t *testing.T) {
	b := sketch.Made(400, func(i int) api.Node {
		x := sketch.To((i+2)%400, i, "x")
		if i%2 == 1 {
			x.Kind, x.Peer = api.Recv, "a"
		}
		return x
	})
	roles, roots := []string{"a", "b"}, []int{0, 1}
	if r, e := probe.Search(b, roles, roots, 4000); e != api.OK || r.States != 4000 || r.Whole || r.Stuck {
		t.Errorf("P14.2: Search = %v, %d", r, e)
	}
	// Now both come to an End, with 398 moves on any way.
	b.Nodes[398] = api.Node{}
	b.Nodes[397].Arms[0].Next = 398
	if r, e := probe.Search(b, roles, roots, 4000); e != api.OK || r.Whole || r.Stuck {
		t.Errorf("P14.2: Search = %v, %d", r, e)
	}
	for _, n := range []int{0, 1, 100, 397, 398, 399, 400} {
		s, e := probe.Play(b, roles, roots, make([]int, n))
		if n > 398 && e != api.ErrProbeWay || n <= 398 && (e != api.OK || stage.Over(b, roles, s) != (n == 398)) {
			t.Errorf("P14.1: Play of %d moves = %v, %d", n, s, e)
		}
	}
}

// However alike the labels are, other letters make another stage: a tells d twice to whom it sends next, and sends one, two or three x in one letter.
func TestLabelsThatAreAlike(t *testing.T) {
	q := sketched("a b c d", "d!p>1,q>2 b!x>3,xx>3,xxx>3 c!x>3,xx>3,xxx>3 d!p>4,q>5 b!x>6,xx>6,xxx>6 c!x>6,xx>6,xxx>6 . a?p>7,q>7", "0 6 6 7")
	r := check(t, q, 1000)
	// When d has heard all, six letters may be under way alone, and nine pairs to b, nine to c and nine to both.
	if !r.Whole || r.States < 6+27 || r.Long[1] != 2 || r.Long[2] != 2 || len(r.Way) != 6 {
		t.Errorf("P14.2: Search = %v", r)
	}
}

func TestLimits(t *testing.T) {
	q := sketched("a b", "b!x>2 a?x>2 .", "0 1")
	for _, most := range []int{0, -1, -2, -4000, 4001, 4002, 65536, 1 << 31, 1 << 32, 1<<32 + 1, 1<<62 + 7, math.MinInt, math.MinInt + 1, math.MaxInt} {
		if r, e := probe.Search(q.b, q.roles, q.roots, most); e != api.ErrProbeForm || !sameReport(r, api.Report{}) {
			t.Errorf("P14.2: Search with at most %d stages = %v, %d", most, r, e)
		}
	}
	for _, most := range []int{3, 4, 3999, 4000} {
		if r, e := probe.Search(q.b, q.roles, q.roots, most); e != api.OK || r.States != 3 || !r.Whole {
			t.Errorf("P14.2: Search with at most %d stages = %v, %d", most, r, e)
		}
	}
}
