package turns_test

import (
	"regexp"
	"slices"
	"strings"
	"testing"

	"repartee/api"
	"repartee/names"
	"repartee/sketch"
	"repartee/turns"
)

// typed reads a local type without a Name.
func typed(text string) api.Local { return sketch.Local("", text) }

var shape = regexp.MustCompile(`\A[a-z][a-z0-9]{0,11}\z`)

func simpleName(s string) bool { return shape.MatchString(s) && !names.Keyword(s) }

// simpleMay tells what P6.1 says of l.
func simpleMay(l api.Local) bool {
	n := len(l.Turns)
	may := n >= 1 && n <= 40
	for _, x := range l.Turns {
		labels := map[string]bool{}
		for _, a := range x.Arms {
			parts := strings.Split(a.Carries.Name, ".")
			chans := len(parts) <= 2 && !slices.ContainsFunc(parts, func(s string) bool { return !simpleName(s) })
			carries := a.Carries.Kind == 5 && chans || a.Carries.Kind >= 0 && a.Carries.Kind <= 4 && a.Carries.Name == ""
			may = may && simpleName(a.Label) && !labels[a.Label] && carries && a.Next >= 0 && a.Next < n
			labels[a.Label] = true
		}
		end := x.Kind == 0 && x.Peer == "" && len(x.Arms) == 0
		other := (x.Kind == 1 || x.Kind == 2) && simpleName(x.Peer) && len(x.Arms) >= 1 && len(x.Arms) <= 6
		may = may && (end || other)
	}
	return may
}

// shorter orders ways by their lengths, and those of one length by their labels.
func shorter(a, b []string) int {
	if len(a) != len(b) {
		return len(a) - len(b)
	}
	return slices.Compare(a, b)
}

// simpleReach tells the order of a breadth-first search without one: the turns by the least ways that lead to them.
func simpleReach(l api.Local) []int {
	ways := map[int][]string{0: {}}
	for changed := true; changed; {
		changed = false
		for i, x := range l.Turns {
			for _, a := range x.Arms {
				way, is := ways[i]
				way = append(slices.Clone(way), a.Label)
				if old, met := ways[a.Next]; is && (!met || shorter(way, old) < 0) {
					ways[a.Next], changed = way, true
				}
			}
		}
	}
	var l2 []int
	for i := range ways {
		l2 = append(l2, i)
	}
	slices.SortFunc(l2, func(i, j int) int { return shorter(ways[i], ways[j]) })
	return l2
}

// simpleTrim tells what P6.2 says of Trim, if l is valid.
func simpleTrim(l api.Local) api.Local {
	reach := simpleReach(l)
	out := api.Local{Name: l.Name}
	for _, i := range reach {
		x := api.Turn{Kind: l.Turns[i].Kind, Peer: l.Turns[i].Peer}
		rest := slices.Clone(l.Turns[i].Arms)
		for len(rest) > 0 {
			least := 0
			for j, a := range rest {
				if a.Label < rest[least].Label {
					least = j
				}
			}
			a := rest[least]
			a.Next = slices.Index(reach, a.Next)
			x.Arms = append(x.Arms, a)
			rest = slices.Delete(rest, least, least+1)
		}
		out.Turns = append(out.Turns, x)
	}
	return out
}

// simplePeers tells what P6.2 says of Peers, if l is valid.
func simplePeers(l api.Local) []string {
	var all []string
	for _, i := range simpleReach(l) {
		if p := l.Turns[i].Peer; p != "" && !slices.Contains(all, p) {
			all = append(all, p)
		}
	}
	slices.Sort(all)
	return all
}

// simpleWalk tells what P6.3 says of Walk, if l is valid: the turn, or -1.
func simpleWalk(l api.Local, labels []string) int {
	if len(labels) == 0 {
		return 0
	}
	before := simpleWalk(l, labels[:len(labels)-1])
	if before < 0 {
		return -1
	}
	for _, a := range l.Turns[before].Arms {
		if a.Label == labels[len(labels)-1] {
			return a.Next
		}
	}
	return -1
}

// simpleSame tells what P6.3 says of Same, if both are valid, without their Trims: it goes along both types side by side, and each turn of one has to meet the same turn of the other whenever it is met.
func simpleSame(a, b api.Local) bool {
	inB, inA := map[int]int{}, map[int]int{}
	var along func(i, j int) bool
	along = func(i, j int) bool {
		j2, met := inB[i]
		i2, met2 := inA[j]
		if met || met2 {
			return met && met2 && i == i2 && j == j2
		}
		inB[i], inA[j] = j, i
		x, y := a.Turns[i], b.Turns[j]
		if x.Kind != y.Kind || x.Peer != y.Peer || len(x.Arms) != len(y.Arms) {
			return false
		}
		for _, p := range x.Arms {
			k := slices.IndexFunc(y.Arms, func(q api.Arm) bool { return p.Label == q.Label && p.Carries == q.Carries })
			if k < 0 || !along(p.Next, y.Arms[k].Next) {
				return false
			}
		}
		return true
	}
	return along(0, 0)
}

// answers has what the functions say of one type and some ways.
type answers struct {
	may   bool
	reach []int
	trim  api.Local
	peers []string
	at    []int
	is    []bool
	same  bool
}

// ask asks every function but for Same with two types.
func ask(l api.Local, ways [][]string) answers {
	x := answers{turns.May(l), turns.Reach(l), turns.Trim(l), turns.Peers(l), nil, nil, turns.Same(l, l)}
	for _, way := range ways {
		at, is := turns.Walk(l, way)
		x.at, x.is = append(x.at, at), append(x.is, is)
	}
	return x
}

// expected are the answers that the simple functions tell.
func expected(l api.Local, ways [][]string) answers {
	if !simpleMay(l) {
		return answers{at: make([]int, len(ways)), is: make([]bool, len(ways))}
	}
	x := answers{true, simpleReach(l), simpleTrim(l), simplePeers(l), nil, nil, true}
	for _, way := range ways {
		at := simpleWalk(l, way)
		x.at, x.is = append(x.at, max(at, 0)), append(x.is, at >= 0)
	}
	return x
}

// compare fails the test where the answers differ.
func compare(t *testing.T, l api.Local, ways [][]string, got, want answers) {
	t.Helper()
	if got.may != want.may {
		t.Fatalf("P6.1: May(%v) = %v", l, got.may)
	}
	if !slices.Equal(got.reach, want.reach) {
		t.Fatalf("P6.2: Reach(%v) = %v, want %v", l, got.reach, want.reach)
	}
	if !sketch.SameLocal(got.trim, want.trim) {
		t.Fatalf("P6.2: Trim(%v) = %v, want %v", l, got.trim, want.trim)
	}
	if !slices.Equal(got.peers, want.peers) {
		t.Fatalf("P6.2: Peers(%v) = %v, want %v", l, got.peers, want.peers)
	}
	if got.same != want.same {
		t.Fatalf("P6.3: Same of %v and itself = %v", l, got.same)
	}
	for i, way := range ways {
		if got.at[i] != want.at[i] || got.is[i] != want.is[i] {
			t.Fatalf("P6.3: Walk(%v, %q) = %d, %v, want %d, %v", l, way, got.at[i], got.is[i], want.at[i], want.is[i])
		}
	}
}

// someWays are ways of which at least a few lead on in most types of these tests.
var someWays = [][]string{nil, {}, {""}, {"a"}, {"b"}, {"x"}, {"a", "a"}, {"a", "b"}, {"b", "a"}, {"b", "b"}, {"x", "a"}, {"a", "", "a"}, {"a", "b", "a"}, {"b", "b", "b", "b"}, {"a", "a", "a", "a", "a", "a"}}

// checkAll holds what every function says of l against the simple functions, twice, and checks that l stays as it is and that its Trim is as P6.4 says. It returns whether l is valid.
func checkAll(t *testing.T, l api.Local, ways [][]string) bool {
	t.Helper()
	before, waysBefore := sketch.CopyLocal(l), make([][]string, len(ways))
	for i, way := range ways {
		waysBefore[i] = slices.Clone(way)
	}
	want := expected(l, ways)
	for range 2 {
		compare(t, l, ways, ask(l, ways), want)
	}
	if !sketch.SameLocal(l, before) || !slices.EqualFunc(ways, waysBefore, slices.Equal[[]string]) {
		t.Fatalf("P0.4: %v was changed to %v, or %q to %q", before, l, waysBefore, ways)
	}
	if want.may {
		checkTrim(t, l, ways)
	}
	return want.may
}

// checkTrim checks what P6.4 says of the Trim of a valid type.
func checkTrim(t *testing.T, l api.Local, ways [][]string) {
	t.Helper()
	x := turns.Trim(l)
	if !turns.May(x) || !simpleMay(x) {
		t.Fatalf("P6.4: the Trim of %v is not valid: %v", l, x)
	}
	if y := turns.Trim(x); !sketch.SameLocal(x, y) {
		t.Fatalf("P6.4: the Trim of %v is %v, and of that %v", l, x, y)
	}
	if !turns.Same(l, x) || !turns.Same(x, l) {
		t.Fatalf("P6.4: %v and its Trim %v are not the same", l, x)
	}
	reach := turns.Reach(l)
	for _, way := range ways {
		at, is := turns.Walk(l, way)
		at2, is2 := turns.Walk(x, way)
		if is != is2 || is && reach[at2] != at || !is && at2 != 0 {
			t.Fatalf("P6.4: Walk(%v, %q) = %d, %v, but of its Trim %d, %v", l, way, at, is, at2, is2)
		}
	}
}
