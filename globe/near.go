package globe

import (
	"repartee/api"
	"repartee/names"
)

// Near returns, in ascending order, the points in which the role takes part next, if the protocol is at a point of from.
func Near(p api.Protocol, role string, from []int) []int {
	if !has(p, role) {
		return nil
	}
	visited := visit(p, role, from)
	var near []int
	// The points give the order; a map has none.
	for at, x := range p.Points {
		if visited[at] && isIn(x, role) {
			near = append(near, at)
		}
	}
	return near
}

// Lost reports whether the role takes part in no point any more, if the protocol is at this point.
func Lost(p api.Protocol, role string, at int) bool {
	return has(p, role) && isPoint(p, at) && len(Near(p, role, []int{at})) == 0
}

// has reports whether p is valid and has the role.
func has(p api.Protocol, role string) bool { return May(p) && names.Has(p.Roles, role) }

func isPoint(p api.Protocol, at int) bool { return 0 <= at && at < len(p.Points) }

func isIn(x api.Point, role string) bool { return x.From == role || x.To == role }

// visit returns the set of the points that are reachable from those of from by steps that leave points without the role.
func visit(p api.Protocol, role string, from []int) map[int]bool {
	visited := map[int]bool{}
	var met []int
	meet := func(at int) {
		if !visited[at] {
			visited[at] = true
			met = append(met, at)
		}
	}
	for _, at := range from {
		if isPoint(p, at) {
			meet(at)
		}
	}
	// The list grows while it is gone through.
	for i := 0; i < len(met); i++ {
		x := p.Points[met[i]]
		if isIn(x, role) {
			continue
		}
		for _, a := range x.Arms {
			meet(a.Next)
		}
	}
	return visited
}
