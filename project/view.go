package project

import (
	"slices"
	"strconv"

	"repartee/api"
	"repartee/globe"
)

// view is a valid protocol as one of its roles sees it, which knows of its state only a set of points.
type view struct {
	p     api.Protocol
	role  string
	lost  []bool         // of each point, whether it is lost for the role
	nears [][]int        // the near set of each turn
	turns map[string]int // the turn with each near set
}

func viewOf(p api.Protocol, role string) *view {
	v := &view{p: p, role: role, turns: map[string]int{}}
	for at := range p.Points {
		v.lost = append(v.lost, globe.Lost(p, role, at))
	}
	return v
}

// look returns the turn that follows if the protocol is at one of these points, which may be a new one.
func (v *view) look(from []int) (int, api.Errno) {
	if v.mayBeLost(from) {
		return 0, api.ErrProjectEnd
	}
	near := globe.Near(v.p, v.role, from)
	k := key(near)
	if turn, met := v.turns[k]; met {
		return turn, api.OK
	}
	turn := len(v.nears)
	if turn == api.MaxTurns {
		return 0, api.ErrProjectLarge
	}
	v.turns[k] = turn
	v.nears = append(v.nears, near)
	return turn, api.OK
}

// mayBeLost reports whether the role cannot know if the protocol goes on for it: of the span of these points, some are lost and some are not.
func (v *view) mayBeLost(from []int) bool {
	span := v.span(from)
	lost := 0
	for _, at := range span {
		if v.lost[at] {
			lost++
		}
	}
	return 0 < lost && lost < len(span)
}

// span returns the points that are reachable from those of from by steps that leave points without the role.
func (v *view) span(from []int) []int {
	var span []int
	meet := func(at int) {
		if !slices.Contains(span, at) {
			span = append(span, at)
		}
	}
	for _, at := range from {
		meet(at)
	}
	for i := 0; i < len(span); i++ {
		x := v.p.Points[span[i]]
		if x.From == v.role || x.To == v.role {
			continue
		}
		for _, a := range x.Arms {
			meet(a.Next)
		}
	}
	return span
}

// key returns the near set as a string, which is another one for each set, as near sets are in ascending order.
func key(near []int) string {
	var k []byte
	for _, at := range near {
		k = append(strconv.AppendInt(k, int64(at), 10), ' ')
	}
	return string(k)
}
