package turns

import (
	"cmp"
	"slices"

	"repartee/api"
	"repartee/names"
)

// Reach returns the indices of the turns that are reachable from turn 0, in the order of a breadth-first search.
func Reach(l api.Local) []int {
	if !May(l) {
		return nil
	}
	reached, _ := search(l)
	return reached
}

// Trim returns l with its reachable turns only, in the order of Reach, and with its arms by ascending labels.
func Trim(l api.Local) api.Local {
	if !May(l) {
		return api.Local{}
	}
	reached, places := search(l)
	trimmed := api.Local{Name: l.Name}
	for _, at := range reached {
		t := l.Turns[at]
		t.Arms = sorted(t.Arms)
		for i := range t.Arms {
			t.Arms[i].Next = places[t.Arms[i].Next]
		}
		trimmed.Turns = append(trimmed.Turns, t)
	}
	return trimmed
}

// Peers returns the peers of the reachable turns, in ascending order without duplicates.
func Peers(l api.Local) []string {
	var peers []string
	for _, at := range Reach(l) {
		if t := l.Turns[at]; t.Kind != api.End {
			peers = names.Put(peers, t.Peer)
		}
	}
	return peers
}

// Same reports whether the Turns of both Trims are equal.
func Same(a, b api.Local) bool {
	return May(a) && May(b) && slices.EqualFunc(Trim(a).Turns, Trim(b).Turns, sameTurn)
}

func sameTurn(a, b api.Turn) bool {
	return a.Kind == b.Kind && a.Peer == b.Peer && slices.Equal(a.Arms, b.Arms)
}

// search returns the reachable turns of a valid type in the order in which they are met, and the place of each in this order.
func search(l api.Local) ([]int, map[int]int) {
	reached := []int{0}
	places := map[int]int{0: 0}
	// The list grows while it is gone through.
	for i := 0; i < len(reached); i++ {
		for _, a := range sorted(l.Turns[reached[i]].Arms) {
			if _, met := places[a.Next]; !met {
				places[a.Next] = len(reached)
				reached = append(reached, a.Next)
			}
		}
	}
	return reached, places
}

// sorted returns a copy of the arms, by ascending labels.
func sorted(arms []api.Arm) []api.Arm {
	// Clone would give an empty list that still points to the argument's memory.
	own := append([]api.Arm(nil), arms...)
	slices.SortFunc(own, func(a, b api.Arm) int { return cmp.Compare(a.Label, b.Label) })
	return own
}
