package project_test

import (
	"strings"
	"testing"

	"repartee/api"
	"repartee/project"
	"repartee/sketch"
)

func TestAll(t *testing.T) {
	for _, c := range []struct {
		roles, p string
		want     []string
	}{
		{"a b c", "a-b!x>1 b-c!y>2 c-a!z>0", []string{"b!x>1 c?z>0", "a?x>1 c!y>0", "b?y>1 a!z>0"}},
		{"c a b", "a-b!x>1 b-c!y>2 c-a!z>0", []string{"b?y>1 a!z>0", "b!x>1 c?z>0", "a?x>1 c!y>0"}},
		{"a b", "a-b!y:1>1,x>0 .", []string{"b!x>0,y:1>1 .", "a?x>0,y:1>1 ."}},
		{"b a", "a-b!y:1>1,x>0 .", []string{"a?x>0,y:1>1 .", "b!x>0,y:1>1 ."}},
		{"a b", ".", []string{".", "."}},
		{"a b c d e", "a-b!x>0", []string{"b!x>0", "a?x>0", ".", ".", "."}},
		{"e d c b a", "a-b!x>1 c-d!x>2 d-e!x:2>3 .", []string{"d?x:2>1 .", "c?x>1 e!x:2>2 .", "d!x>1 .", "a?x>1 .", "b!x>1 ."}},
		{"a b c", "a-b!l>1,r>2 b-c!x>3 b-c!y:3>3 .", []string{"b!l>1,r>1 .", "a?l>1,r>2 c!x>3 c!y:3>3 .", "b?x>1,y:3>1 ."}},
	} {
		p := rolesOf(c.roles, c.p)
		got, at, e := project.All(p)
		if at != 0 || e != api.OK || len(got) != len(c.want) {
			t.Errorf("P8.2: All(%v) = %v, %d, %d", p, got, at, e)
			continue
		}
		for i, role := range p.Roles {
			if !sketch.SameLocal(got[i], sketch.Local("p."+role, c.want[i])) {
				t.Errorf("P8.2: All(%v) has %v for %s, want %s", p, got[i], role, c.want[i])
			}
		}
		check(t, p)
	}
}

// Of several errors, All returns that of the first role, whatever the errors are.
func TestAllErrors(t *testing.T) {
	for _, c := range []struct {
		roles, p string
		at       int
		want     api.Errno
	}{
		// The same error at the first, a middle and the last role.
		{"a b c", "a-b!x>1,y>2 . b-c!z>1", 2, api.ErrProjectEnd},
		{"a c b", "a-b!x>1,y>2 . b-c!z>1", 1, api.ErrProjectEnd},
		{"c a b", "a-b!x>1,y>2 . b-c!z>1", 0, api.ErrProjectEnd},
		{"a b d e c", "a-b!x>1,y>2 . b-c!z>1", 4, api.ErrProjectEnd},
		// Each error.
		{"a b c", "a-b!x>1,y>2 b-c!z>0 c-b!z>0", 2, api.ErrProjectMix},
		{"c b a", "a-b!x>1,y>2 b-c!z>0 c-b!z>0", 0, api.ErrProjectMix},
		{"a b c", "a-b!x>1,y>2 c-b!z>0 c-b!w>0", 2, api.ErrProjectSays},
		{"b c a", "a-b!x>1,y>2 c-b!z>0 c-b!w>0", 1, api.ErrProjectSays},
		{"a b c", "a-b!x>1,y>2 c-b!z>0 c-b!z:1>0", 2, api.ErrProjectCarries},
		{"c b a", "a-b!x>1,y>2 c-b!z>0 c-b!z:1>0", 0, api.ErrProjectCarries},
		{"a b c", "a-b!x>1,y>2 b-c!a>0,b>0,c>0,d>0 b-c!e>0,f>0,g>0", 2, api.ErrProjectLarge},
		{"b c a", "a-b!x>1,y>2 b-c!a>0,b>0,c>0,d>0 b-c!e>0,f>0,g>0", 1, api.ErrProjectLarge},
		// Two roles with an error each: c may have to say z or w, and d may be lost.
		{"a b c d", "a-b!x>1,y>2 c-b!z>3 c-b!w>4 b-d!v>4 .", 2, api.ErrProjectSays},
		{"a b d c", "a-b!x>1,y>2 c-b!z>3 c-b!w>4 b-d!v>4 .", 2, api.ErrProjectEnd},
		{"d c b a", "a-b!x>1,y>2 c-b!z>3 c-b!w>4 b-d!v>4 .", 0, api.ErrProjectEnd},
		{"c a d b", "a-b!x>1,y>2 c-b!z>3 c-b!w>4 b-d!v>4 .", 0, api.ErrProjectSays},
		{"a c b d", "a-b!x>1,y>2 c-b!z>3 c-b!w>4 b-d!v>4 .", 1, api.ErrProjectSays},
		// Three roles: d hears from a or b, c may be lost, and e says what it carries in two ways.
		{"a b c d e", "a-b!x>1,y>2 a-d!x>3 b-d!x>4 e-a!z>5 e-a!z:1>7 b-c!x>6 . .", 2, api.ErrProjectEnd},
		{"a b d c e", "a-b!x>1,y>2 a-d!x>3 b-d!x>4 e-a!z>5 e-a!z:1>7 b-c!x>6 . .", 2, api.ErrProjectMix},
		{"a e b c d", "a-b!x>1,y>2 a-d!x>3 b-d!x>4 e-a!z>5 e-a!z:1>7 b-c!x>6 . .", 1, api.ErrProjectCarries},
		{"e d c b a", "a-b!x>1,y>2 a-d!x>3 b-d!x>4 e-a!z>5 e-a!z:1>7 b-c!x>6 . .", 0, api.ErrProjectCarries},
		{"d e c b a", "a-b!x>1,y>2 a-d!x>3 b-d!x>4 e-a!z>5 e-a!z:1>7 b-c!x>6 . .", 0, api.ErrProjectMix},
		{"b d e c a", "a-b!x>1,y>2 a-d!x>3 b-d!x>4 e-a!z>5 e-a!z:1>7 b-c!x>6 . .", 1, api.ErrProjectMix},
		// Invalid protocols: no role is to blame.
		{"a b c", "", 0, api.ErrProjectForm},
		{"a b c", "a-a!x>0", 0, api.ErrProjectForm},
		{"a b c", "a-b!x>1", 0, api.ErrProjectForm},
		{"a b c", "a-b!x>0 c-d!x>0", 0, api.ErrProjectForm},
		{"a b c", "a-b!x>1,y>2 . b-c!z>3", 0, api.ErrProjectForm},
		{"a b", "a-b!x>1,y>2 . b-c!z>1", 0, api.ErrProjectForm},
		{"a b C", "a-b!x>0", 0, api.ErrProjectForm},
		{"a b b", "a-b!x>0", 0, api.ErrProjectForm},
		{"a b c d e f", "a-b!x>0", 0, api.ErrProjectForm},
		{"a", ".", 0, api.ErrProjectForm},
		{"", "", 0, api.ErrProjectForm},
	} {
		p := rolesOf(c.roles, c.p)
		if got, at, e := project.All(p); len(got) > 0 || at != c.at || e != c.want {
			t.Errorf("P8.2: All(%v) = %v, %d, %d, want %d, %d", p, got, at, e, c.at, c.want)
		}
		check(t, p)
	}
	if got, at, e := project.All(api.Protocol{}); len(got) > 0 || at != 0 || e != api.ErrProjectForm {
		t.Errorf("P8.2: All of the zero protocol = %v, %d, %d", got, at, e)
	}
}

// allTexts are the protocols of all tables.
func allTexts() []string {
	var l []string
	for _, c := range projections {
		l = append(l, c.p)
	}
	for _, c := range refusals {
		l = append(l, c.p)
	}
	return l
}

func TestNothingBeyondAListIsReadOrWritten(t *testing.T) {
	for _, text := range allTexts() {
		p := sketch.RoomyProtocol(proto(text))
		before := sketch.BeyondProtocol(p)
		check(t, p)
		checkRole(t, p, "beyond")
		if !sketch.SameProtocol(sketch.BeyondProtocol(p), before) {
			t.Errorf("P0.4: memory beyond the lists of %s was written: %v", text, sketch.BeyondProtocol(p))
		}
	}
	// The point, the arms and the roles beyond are none.
	next, arms, roles := sketch.RoomyProtocol(proto("a-b!x>1 .")), sketch.RoomyProtocol(proto("a-b!x>0")), sketch.RoomyProtocol(rolesOf("a b", "a-b!x>0"))
	next.Points = next.Points[:1]
	arms.Points[0].Arms = arms.Points[0].Arms[:0]
	roles.Roles = roles.Roles[:1]
	for _, p := range []api.Protocol{next, arms, roles} {
		if _, e := check(t, p); e != api.ErrProjectForm {
			t.Errorf("P0.4: memory beyond the lists of %v was read", p)
		}
	}
}

func TestResultsAreNewMemory(t *testing.T) {
	for _, text := range allTexts() {
		for _, p := range []api.Protocol{proto(text), sketch.RoomyProtocol(proto(text))} {
			before := sketch.CopyProtocol(p)
			for i, role := range p.Roles {
				want, _ := simpleRole(p, role)
				one, _ := project.Role(p, role)
				two, _ := project.Role(p, role)
				all, _, _ := project.All(p)
				all2, _, _ := project.All(p)
				sketch.SpoilLocal(one)
				for j := range all {
					if j != i {
						sketch.SpoilLocal(all[j])
					}
				}
				if !sketch.SameLocal(two, want) || len(all) > i && !sketch.SameLocal(all[i], want) || len(all2) > i && !sketch.SameLocal(all2[i], want) {
					t.Fatalf("P0.4: two results for %s share memory", text)
				}
				if !sketch.SameProtocol(p, before) {
					t.Fatalf("P0.4: a result shares its memory with the argument %s", text)
				}
				sketch.SpoilList(all, api.Local{Name: "spoiled"})
				if len(all2) > i && !sketch.SameLocal(all2[i], want) {
					t.Fatalf("P0.4: two results of All for %s share memory", text)
				}
			}
		}
	}
}

// An arm that is added to one turn, or changed in it, is in no other.
func TestTurnsOfAProjectionShareNoMemory(t *testing.T) {
	for _, text := range append(allTexts(), "a-b!x>1,y>2 a-b!x>1,y>2 a-b!x>1,y>2") {
		for _, role := range []string{"a", "b", "c"} {
			if l, _ := project.Role(proto(text), role); !sketch.ApartLocal(l) {
				t.Errorf("P0.4: turns of the projection of %s to %s share memory", text, role)
			}
		}
	}
}

func TestNilAndEmptyListsAreTheSame(t *testing.T) {
	for _, text := range allTexts() {
		if !strings.Contains(text, ".") {
			continue
		}
		p := proto(text)
		for i := range p.Points {
			if p.Points[i].Arms == nil {
				p.Points[i].Arms = []api.Arm{}
			}
		}
		for _, role := range p.Roles {
			a, e := project.Role(proto(text), role)
			b, f := project.Role(p, role)
			if e != f || !sketch.SameLocal(a, b) {
				t.Errorf("P0.4: Role tells nil from an empty list in %s", text)
			}
		}
		check(t, p)
	}
	for _, p := range []api.Protocol{{Name: "p", Roles: []string{}, Points: []api.Point{{}}}, {Name: "p", Roles: []string{"a", "b"}, Points: []api.Point{}}} {
		if _, e := check(t, p); e != api.ErrProjectForm {
			t.Errorf("P0.4: All of %v: %d", p, e)
		}
	}
}
