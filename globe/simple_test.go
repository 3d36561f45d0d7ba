package globe_test

import (
	"math"
	"regexp"
	"slices"
	"strings"
	"testing"

	"repartee/api"
	"repartee/globe"
	"repartee/names"
	"repartee/sketch"
)

// proto reads a protocol of the roles a, b and c.
func proto(text string) api.Protocol { return rolesOf("a b c", text) }

// rolesOf reads a protocol of these roles.
func rolesOf(roles, text string) api.Protocol { return sketch.Protocol("p", roles, text) }

var shape = regexp.MustCompile(`\A[a-z][a-z0-9]{0,11}\z`)

func simpleName(s string) bool { return shape.MatchString(s) && !names.Keyword(s) }

// simpleMay tells what P7.1 says of p.
func simpleMay(p api.Protocol) bool {
	may := simpleName(p.Name) && len(p.Roles) >= 2 && len(p.Roles) <= 5 && len(p.Points) >= 1 && len(p.Points) <= 24
	for i, r := range p.Roles {
		may = may && simpleName(r) && slices.Index(p.Roles, r) == i
	}
	for _, x := range p.Points {
		end := x.From == "" && x.To == "" && len(x.Arms) == 0
		roles := slices.Contains(p.Roles, x.From) && slices.Contains(p.Roles, x.To) && x.From != x.To
		may = may && (end || roles && simpleArms(x.Arms, len(p.Points)))
	}
	return may
}

// simpleArms tells which arms are valid among n points.
func simpleArms(arms []api.Arm, n int) bool {
	valid := len(arms) >= 1 && len(arms) <= 6
	labels := map[string]bool{}
	for _, a := range arms {
		parts := strings.Split(a.Carries.Name, ".")
		chans := len(parts) <= 2 && !slices.ContainsFunc(parts, func(s string) bool { return !simpleName(s) })
		carries := a.Carries.Kind == 5 && chans || a.Carries.Kind >= 0 && a.Carries.Kind <= 4 && a.Carries.Name == ""
		valid = valid && simpleName(a.Label) && !labels[a.Label] && carries && a.Next >= 0 && a.Next < n
		labels[a.Label] = true
	}
	return valid
}

// shorter orders ways by their lengths, and those of one length by their labels.
func shorter(a, b []string) int {
	if len(a) != len(b) {
		return len(a) - len(b)
	}
	return slices.Compare(a, b)
}

// simpleReach tells the order of a breadth-first search without one: the points by the least ways that lead to them.
func simpleReach(p api.Protocol) []int {
	ways := map[int][]string{0: {}}
	for changed := true; changed; {
		changed = false
		for i, x := range p.Points {
			for _, a := range x.Arms {
				way, is := ways[i]
				way = append(slices.Clone(way), a.Label)
				if old, met := ways[a.Next]; is && (!met || shorter(way, old) < 0) {
					ways[a.Next], changed = way, true
				}
			}
		}
	}
	var reach []int
	for i := range ways {
		reach = append(reach, i)
	}
	slices.SortFunc(reach, func(i, j int) int { return shorter(ways[i], ways[j]) })
	return reach
}

// simpleTrim tells what P7.2 says of Trim, if p is valid.
func simpleTrim(p api.Protocol) api.Protocol {
	reach := simpleReach(p)
	out := api.Protocol{Name: p.Name, Roles: slices.Clone(p.Roles)}
	for _, i := range reach {
		x := api.Point{From: p.Points[i].From, To: p.Points[i].To}
		rest := slices.Clone(p.Points[i].Arms)
		for len(rest) > 0 {
			least := 0
			for j, a := range rest {
				if a.Label < rest[least].Label {
					least = j
				}
			}
			a := rest[least]
			a.Next = slices.Index(reach, a.Next)
			x.Arms = append(x.Arms, a)
			rest = slices.Delete(rest, least, least+1)
		}
		out.Points = append(out.Points, x)
	}
	return out
}

// simpleWalk tells what P7.2 says of Walk, if p is valid: the point, or -1.
func simpleWalk(p api.Protocol, labels []string) int {
	at := 0
	for _, label := range labels {
		next := -1
		for _, a := range p.Points[at].Arms {
			if a.Label == label {
				next = a.Next
			}
		}
		if next < 0 {
			return -1
		}
		at = next
	}
	return at
}

// simpleSame tells what P7.2 says of Same, if both are valid, without their Trims: it goes along both protocols side by side, and each point of one has to meet the same point of the other whenever it is met.
func simpleSame(a, b api.Protocol) bool {
	inB, inA := map[int]int{}, map[int]int{}
	var along func(i, j int) bool
	along = func(i, j int) bool {
		j2, met := inB[i]
		i2, met2 := inA[j]
		if met || met2 {
			return met && met2 && i == i2 && j == j2
		}
		inB[i], inA[j] = j, i
		x, y := a.Points[i], b.Points[j]
		if x.From != y.From || x.To != y.To || len(x.Arms) != len(y.Arms) {
			return false
		}
		for _, p := range x.Arms {
			k := slices.IndexFunc(y.Arms, func(q api.Arm) bool { return p.Label == q.Label && p.Carries == q.Carries })
			if k < 0 || !along(p.Next, y.Arms[k].Next) {
				return false
			}
		}
		return true
	}
	return strings.Join(a.Roles, " ") == strings.Join(b.Roles, " ") && along(0, 0)
}

// closure tells of each two points of a valid protocol whether zero or more steps lead from one to the other, each of which leaves a point without the role.
func closure(p api.Protocol, role string) [][]bool {
	n := len(p.Points)
	leads := make([][]bool, n)
	for i, x := range p.Points {
		leads[i] = make([]bool, n)
		leads[i][i] = true
		for _, a := range x.Arms {
			if x.From != role && x.To != role {
				leads[i][a.Next] = true
			}
		}
	}
	for k := range n {
		for i := range n {
			for j := range n {
				leads[i][j] = leads[i][j] || leads[i][k] && leads[k][j]
			}
		}
	}
	return leads
}

// simpleNear tells what P7.3 says of Near, if p is valid and has the role.
func simpleNear(p api.Protocol, leads [][]bool, role string, from []int) []int {
	var near []int
	for j, x := range p.Points {
		leadsTo := func(i int) bool { return i >= 0 && i < len(p.Points) && leads[i][j] }
		if (x.From == role || x.To == role) && slices.ContainsFunc(from, leadsTo) {
			near = append(near, j)
		}
	}
	return near
}

// someWays are ways of which at least a few lead on in most protocols of these tests.
var someWays = [][]string{nil, {}, {""}, {"x"}, {"y"}, {"z"}, {"x", "x"}, {"x", "y"}, {"y", "x"}, {"y", "y"}, {"z", "x"}, {"x", "", "x"}, {"x", "y", "x"}, {"y", "y", "y", "y"}, {"x", "x", "x", "x", "x", "x"}}

// fewFroms are a few lists of indices for a protocol of n points.
func fewFroms(n int) [][]int {
	return [][]int{nil, {}, {0}, {-1}, {n}, {n - 1, 0, n - 1}, {math.MinInt, n / 2, math.MaxInt}, {-1, n, -1 << 32, 1 << 32}}
}

// manyFroms are lists with every index of a protocol of n points: alone, twice, among others and among those of no point.
func manyFroms(n int) [][]int {
	l := fewFroms(n)
	var rising, falling []int
	for i := -1; i <= n; i++ {
		l = append(l, []int{i}, []int{i, i}, []int{n, i, (i*7 + 3) % max(n, 1), -1, i})
		rising, falling = append(rising, i), append(falling, n-1-i)
	}
	return append(l, rising, falling, append(falling, rising...))
}

// checkAll holds what every function says of p against the simple functions, twice, and checks that p stays as it is and that its Trim is as chapter 6 says. It returns whether p is valid.
func checkAll(t *testing.T, p api.Protocol, ways [][]string, froms [][]int) bool {
	t.Helper()
	before := sketch.CopyProtocol(p)
	may := simpleMay(p)
	for range 2 {
		if globe.May(p) != may {
			t.Fatalf("P7.1: May(%v) = %v", p, !may)
		}
		checkGraph(t, p, may)
		checkWays(t, p, may, ways)
		checkRoles(t, p, may, froms)
	}
	if !sketch.SameProtocol(p, before) {
		t.Fatalf("P0.4: %v was changed to %v", before, p)
	}
	if may {
		checkTrim(t, p, ways)
	}
	return may
}

// checkGraph checks Reach, Trim, and Same of p and itself.
func checkGraph(t *testing.T, p api.Protocol, may bool) {
	t.Helper()
	var reach []int
	var trim api.Protocol
	if may {
		reach, trim = simpleReach(p), simpleTrim(p)
	}
	if got := globe.Reach(p); !slices.Equal(got, reach) {
		t.Fatalf("P7.2: Reach(%v) = %v, want %v", p, got, reach)
	}
	if got := globe.Trim(p); !sketch.SameProtocol(got, trim) {
		t.Fatalf("P7.2: Trim(%v) = %v, want %v", p, got, trim)
	}
	if globe.Same(p, p) != may {
		t.Fatalf("P7.2: Same of %v and itself = %v", p, !may)
	}
}

// checkWays checks Walk.
func checkWays(t *testing.T, p api.Protocol, may bool, ways [][]string) {
	t.Helper()
	for _, way := range ways {
		before := slices.Clone(way)
		want := -1
		if may {
			want = simpleWalk(p, way)
		}
		if at, is := globe.Walk(p, way); at != max(want, 0) || is != (want >= 0) {
			t.Fatalf("P7.2: Walk(%v, %q) = %d, %v, want %d", p, way, at, is, want)
		}
		if !slices.Equal(way, before) {
			t.Fatalf("P0.4: the labels %q were changed to %q", before, way)
		}
	}
}

// checkRoles checks Near and Lost, for the roles of p and others.
func checkRoles(t *testing.T, p api.Protocol, may bool, froms [][]int) {
	t.Helper()
	for _, role := range append([]string{"", "other", "p"}, p.Roles...) {
		is := may && slices.Contains(p.Roles, role)
		var leads [][]bool
		if is {
			leads = closure(p, role)
		}
		for _, from := range froms {
			checkNear(t, p, is, leads, role, from)
		}
		for _, at := range []int{math.MinInt, -1 << 32, -2, -1, 0, 1, 2, 3, len(p.Points) - 1, len(p.Points), len(p.Points) + 1, 1 << 32, math.MaxInt} {
			lost := is && at >= 0 && at < len(p.Points) && len(simpleNear(p, leads, role, []int{at})) == 0
			if globe.Lost(p, role, at) != lost {
				t.Fatalf("P7.3: Lost(%v, %q, %d) = %v", p, role, at, !lost)
			}
		}
	}
}

// checkNear checks Near of one list, and Lost of each of its elements.
func checkNear(t *testing.T, p api.Protocol, is bool, leads [][]bool, role string, from []int) {
	t.Helper()
	before := slices.Clone(from)
	var want []int
	if is {
		want = simpleNear(p, leads, role, from)
	}
	if got := globe.Near(p, role, from); !slices.Equal(got, want) {
		t.Fatalf("P7.3: Near(%v, %q, %v) = %v, want %v", p, role, from, got, want)
	}
	if !slices.Equal(from, before) {
		t.Fatalf("P0.4: the indices %v were changed to %v", before, from)
	}
	for _, at := range from {
		lost := is && at >= 0 && at < len(p.Points) && len(simpleNear(p, leads, role, []int{at})) == 0
		if globe.Lost(p, role, at) != lost {
			t.Fatalf("P7.3: Lost(%v, %q, %d) = %v", p, role, at, !lost)
		}
	}
}

// checkTrim checks what chapter 6 says of Trims, of the Trim of a valid protocol.
func checkTrim(t *testing.T, p api.Protocol, ways [][]string) {
	t.Helper()
	x := globe.Trim(p)
	if !globe.May(x) {
		t.Fatalf("P7.2: the Trim of %v is not valid: %v", p, x)
	}
	if y := globe.Trim(x); !sketch.SameProtocol(x, y) {
		t.Fatalf("P7.2: the Trim of %v is %v, and of that %v", p, x, y)
	}
	if !globe.Same(p, x) || !globe.Same(x, p) {
		t.Fatalf("P7.2: %v and its Trim %v are not the same", p, x)
	}
	reach := globe.Reach(p)
	for _, way := range ways {
		at, is := globe.Walk(p, way)
		at2, is2 := globe.Walk(x, way)
		if is != is2 || is && reach[at2] != at {
			t.Fatalf("P7.2: Walk(%v, %q) = %d, %v, but of its Trim %d, %v", p, way, at, is, at2, is2)
		}
	}
}
