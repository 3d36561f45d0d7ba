package project

import (
	"slices"

	"repartee/api"
)

// turn returns the turn with this near set.
func (v *view) turn(near []int) (api.Turn, api.Errno) {
	if len(near) == 0 {
		return api.Turn{Kind: api.End}, api.OK
	}
	points := v.points(near)
	t := api.Turn{Kind: api.Send, Peer: points[0].To}
	if points[0].To == v.role {
		t = api.Turn{Kind: api.Recv, Peer: points[0].From}
	}
	labels := labelsOf(points)
	if e := fault(t.Kind, points, labels); e != api.OK {
		return api.Turn{}, e
	}
	for _, label := range labels {
		arm, e := v.arm(points, label)
		if e != api.OK {
			return api.Turn{}, e
		}
		t.Arms = append(t.Arms, arm)
	}
	return t, api.OK
}

func (v *view) points(near []int) []api.Point {
	var points []api.Point
	for _, at := range near {
		points = append(points, v.p.Points[at])
	}
	return points
}

// arm returns the arm for all arms with this label, which carry the same.
func (v *view) arm(points []api.Point, label string) (api.Arm, api.Errno) {
	arms := armsOf(points, label)
	var nexts []int
	for _, a := range arms {
		nexts = append(nexts, a.Next)
	}
	next, e := v.look(nexts)
	return api.Arm{Label: label, Carries: arms[0].Carries, Next: next}, e
}

// fault returns the first reason why these points, with these labels, make no turn of this Kind.
func fault(kind int, points []api.Point, labels []string) api.Errno {
	switch {
	case !sameRoles(points):
		return api.ErrProjectMix
	case kind == api.Send && !sameLabels(points, labels):
		return api.ErrProjectSays
	case len(labels) > api.MaxArms:
		return api.ErrProjectLarge
	case !sameCarries(points, labels):
		return api.ErrProjectCarries
	}
	return api.OK
}

// sameRoles reports whether From and To are the same in all points: as one of them is the role itself, it is then always on the same side, and the other role is the same.
func sameRoles(points []api.Point) bool {
	for _, x := range points {
		if x.From != points[0].From || x.To != points[0].To {
			return false
		}
	}
	return true
}

// sameLabels reports whether each point has all of the labels.
func sameLabels(points []api.Point, labels []string) bool {
	for _, x := range points {
		// The labels of a point are distinct, and all of them are among the labels.
		if len(x.Arms) != len(labels) {
			return false
		}
	}
	return true
}

func sameCarries(points []api.Point, labels []string) bool {
	for _, label := range labels {
		arms := armsOf(points, label)
		for _, a := range arms {
			if a.Carries != arms[0].Carries {
				return false
			}
		}
	}
	return true
}

// labelsOf returns the labels of all points together, in ascending order.
func labelsOf(points []api.Point) []string {
	var labels []string
	for _, x := range points {
		for _, a := range x.Arms {
			labels = append(labels, a.Label)
		}
	}
	slices.Sort(labels)
	return slices.Compact(labels)
}

// armsOf returns the arms with this label.
func armsOf(points []api.Point, label string) []api.Arm {
	var arms []api.Arm
	for _, x := range points {
		for _, a := range x.Arms {
			if a.Label == label {
				arms = append(arms, a)
			}
		}
	}
	return arms
}
