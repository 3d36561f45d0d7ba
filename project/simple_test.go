package project_test

import (
	"regexp"
	"slices"
	"strings"
	"testing"

	"repartee/api"
	"repartee/globe"
	"repartee/project"
	"repartee/sketch"
	"repartee/turns"
)

// proto reads a protocol of the roles a, b and c.
func proto(text string) api.Protocol { return rolesOf("a b c", text) }

// rolesOf reads a protocol of these roles.
func rolesOf(roles, text string) api.Protocol { return sketch.Protocol("p", roles, text) }

// simple projects a protocol to a role by what chapter 8 says, without the packages below and with sets as bits of a number.
type simple struct {
	p     api.Protocol
	role  string
	leads []uint32 // of each point, those to which zero or more steps lead, each of which leaves a point without the role
	mine  uint32   // the points in which the role takes part
	lost  uint32   // the points that are lost for it
	nears []uint32
}

func simpleOf(p api.Protocol, role string) *simple {
	n := len(p.Points)
	s := &simple{p: p, role: role, leads: make([]uint32, n)}
	for i, x := range p.Points {
		s.leads[i] = 1 << i
		if x.From == role || x.To == role {
			s.mine |= 1 << i
			continue
		}
		for _, a := range x.Arms {
			s.leads[i] |= 1 << a.Next
		}
	}
	for k := range n {
		for i := range n {
			if s.leads[i]>>k&1 == 1 {
				s.leads[i] |= s.leads[k]
			}
		}
	}
	for i := range n {
		if s.leads[i]&s.mine == 0 {
			s.lost |= 1 << i
		}
	}
	return s
}

// span is that of a set of points.
func (s *simple) span(from uint32) uint32 {
	span := uint32(0)
	for i := range s.p.Points {
		if from>>i&1 == 1 {
			span |= s.leads[i]
		}
	}
	return span
}

// look tells which turn is found by looking at a set of points.
func (s *simple) look(from uint32) (int, api.Errno) {
	span := s.span(from)
	if span&s.lost != 0 && span&^s.lost != 0 {
		return 0, api.ErrProjectEnd
	}
	for i, near := range s.nears {
		if near == span&s.mine {
			return i, api.OK
		}
	}
	if len(s.nears)+1 > 40 {
		return 0, api.ErrProjectLarge
	}
	s.nears = append(s.nears, span&s.mine)
	return len(s.nears) - 1, api.OK
}

// turn tells which turn has this near set.
func (s *simple) turn(near uint32) (api.Turn, api.Errno) {
	var points []api.Point
	for i, x := range s.p.Points {
		if near>>i&1 == 1 {
			points = append(points, x)
		}
	}
	if len(points) == 0 {
		return api.Turn{}, api.OK
	}
	arms := map[string][]api.Arm{}
	var labels []string
	for _, x := range points {
		for _, a := range x.Arms {
			if arms[a.Label] == nil {
				labels = append(labels, a.Label)
			}
			arms[a.Label] = append(arms[a.Label], a)
		}
	}
	if e := s.fault(points, len(labels), arms); e != api.OK {
		return api.Turn{}, e
	}
	t := api.Turn{Kind: 1, Peer: points[0].To}
	if points[0].From != s.role {
		t = api.Turn{Kind: 2, Peer: points[0].From}
	}
	slices.SortFunc(labels, strings.Compare)
	for _, label := range labels {
		to := uint32(0)
		for _, a := range arms[label] {
			to |= 1 << a.Next
		}
		next, e := s.look(to)
		if e != api.OK {
			return api.Turn{}, e
		}
		t.Arms = append(t.Arms, api.Arm{Label: label, Carries: arms[label][0].Carries, Next: next})
	}
	return t, api.OK
}

// fault holds each two points of a turn against each other.
func (s *simple) fault(points []api.Point, labels int, arms map[string][]api.Arm) api.Errno {
	mix, says, carries := false, false, false
	for _, x := range points {
		for _, y := range points {
			mix = mix || x.From == s.role && y.To == s.role
			mix = mix || other(x, s.role) != other(y, s.role)
			says = says || x.From == s.role && simpleLabels(x) != simpleLabels(y)
		}
	}
	for _, same := range arms {
		for _, a := range same {
			carries = carries || a.Carries.Kind != same[0].Carries.Kind || a.Carries.Name != same[0].Carries.Name
		}
	}
	switch {
	case mix:
		return 802
	case says:
		return 803
	case labels > 6:
		return 805
	case carries:
		return 804
	}
	return 0
}

// other tells with whom the role deals at a point.
func other(x api.Point, role string) string {
	if x.From == role {
		return x.To
	}
	return x.From
}

func simpleLabels(x api.Point) string {
	var l []string
	for _, a := range x.Arms {
		l = append(l, a.Label)
	}
	slices.SortFunc(l, strings.Compare)
	return strings.Join(l, " ")
}

// simpleRole tells what P8.1 says of p and the role.
func simpleRole(p api.Protocol, role string) (api.Local, api.Errno) {
	if !globe.May(p) || !slices.Contains(p.Roles, role) {
		return api.Local{}, 800
	}
	s := simpleOf(p, role)
	if _, e := s.look(1); e != api.OK {
		return api.Local{}, e
	}
	l := api.Local{Name: p.Name + "." + role}
	for len(l.Turns) < len(s.nears) {
		t, e := s.turn(s.nears[len(l.Turns)])
		if e != api.OK {
			return api.Local{}, e
		}
		l.Turns = append(l.Turns, t)
	}
	return l, api.OK
}

// checkRole holds what Role says of p and the role against simpleRole, and checks that p stays as it is.
func checkRole(t *testing.T, p api.Protocol, role string) (api.Local, api.Errno) {
	t.Helper()
	before := sketch.CopyProtocol(p)
	want, wantErr := simpleRole(p, role)
	for range 2 {
		got, e := project.Role(p, role)
		if e != wantErr || !sketch.SameLocal(got, want) {
			t.Fatalf("P8.1: Role(%v, %q) = %v, %d, want %v, %d", p, role, got, e, want, wantErr)
		}
	}
	if !sketch.SameProtocol(p, before) {
		t.Fatalf("P0.4: %v was changed to %v", before, p)
	}
	return want, wantErr
}

// check checks All of p and Role of each of its roles and of others, and what follows for them.
func check(t *testing.T, p api.Protocol) ([]api.Local, api.Errno) {
	t.Helper()
	for _, role := range []string{"", "other", "p", "end", "A"} {
		checkRole(t, p, role)
	}
	var want []api.Local
	at, err := 0, api.OK
	if !globe.May(p) {
		err = api.ErrProjectForm
	}
	for i, role := range p.Roles {
		l, e := checkRole(t, p, role)
		if e == api.OK {
			checkType(t, p, role, l)
		}
		if e != api.OK && err == api.OK {
			at, err = i, e
		}
		want = append(want, l)
	}
	if err != api.OK {
		want = nil
	}
	before := sketch.CopyProtocol(p)
	for range 2 {
		got, i, e := project.All(p)
		if i != at || e != err || !slices.EqualFunc(got, want, sketch.SameLocal) {
			t.Fatalf("P8.2: All(%v) = %v, %d, %d, want %v, %d, %d", p, got, i, e, want, at, err)
		}
	}
	if !sketch.SameProtocol(p, before) {
		t.Fatalf("P0.4: %v was changed to %v", before, p)
	}
	if globe.May(p) {
		checkTrimmed(t, p)
	}
	return want, err
}

var labelShape = regexp.MustCompile(`\A[a-z][a-z0-9]{0,11}\z`)

// checkType checks what P8.3 says of a projection, with the rules of layer 6 and without.
func checkType(t *testing.T, p api.Protocol, role string, l api.Local) {
	t.Helper()
	if !turns.May(l) || !sketch.SameLocal(turns.Trim(l), l) {
		t.Fatalf("P8.3: the projection of %v to %s is not valid, or not its own Trim: %v", p, role, l)
	}
	if l.Name != p.Name+"."+role || len(l.Turns) < 1 || len(l.Turns) > 40 {
		t.Fatalf("P8.3: the projection of %v to %s: %v", p, role, l)
	}
	ends := 0
	for _, x := range l.Turns {
		last := ""
		for _, a := range x.Arms {
			if !labelShape.MatchString(a.Label) || a.Label <= last || a.Next < 0 || a.Next >= len(l.Turns) {
				t.Fatalf("P8.3: the arms of the projection of %v to %s: %v", p, role, l)
			}
			last = a.Label
		}
		if x.Kind == api.End {
			ends++
		}
		if (x.Kind == api.End) != (len(x.Arms) == 0) || len(x.Arms) > 6 || x.Peer == role {
			t.Fatalf("P8.3: a turn of the projection of %v to %s: %v", p, role, l)
		}
	}
	if ends > 1 {
		t.Fatalf("P8.1: the end of the projection of %v to %s is not one turn: %v", p, role, l)
	}
}

// checkTrimmed checks that p and its Trim have the same projections, and the same errors.
func checkTrimmed(t *testing.T, p api.Protocol) {
	t.Helper()
	trim := globe.Trim(p)
	for _, role := range p.Roles {
		a, e := project.Role(p, role)
		b, f := project.Role(trim, role)
		if e != f || !sketch.SameLocal(a, b) {
			t.Fatalf("P8.3: to %s, %v is %v, %d, and its Trim is %v, %d", role, p, a, e, b, f)
		}
	}
}
