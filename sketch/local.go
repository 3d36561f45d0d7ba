package sketch

import (
	"slices"

	"repartee/api"
)

// SameLocal reports whether two local types are the same, turn by turn, and have the same Name.
func SameLocal(a, b api.Local) bool {
	return a.Name == b.Name && slices.EqualFunc(a.Turns, b.Turns, func(x, y api.Turn) bool {
		return x.Kind == y.Kind && x.Peer == y.Peer && slices.Equal(x.Arms, y.Arms)
	})
}

// CopyLocal returns l in memory of its own.
func CopyLocal(l api.Local) api.Local {
	l.Turns = slices.Clone(l.Turns)
	for i := range l.Turns {
		l.Turns[i].Arms = slices.Clone(l.Turns[i].Arms)
	}
	return l
}

// RoomyLocal returns a copy of l with two more in the memory beyond the length of each list, which would count if they were read.
func RoomyLocal(l api.Local) api.Local {
	l.Turns = RoomyList(l.Turns, Local("", "beyond!beyond:5beyond>0 end!x>9").Turns...)
	for i := range l.Turns {
		l.Turns[i].Arms = roomyArms(l.Turns[i].Arms)
	}
	return l
}

func roomyArms(l []api.Arm) []api.Arm {
	return RoomyList(l, Arms("beyond:5beyond>0,x>-1")...)
}

// BeyondLocal returns what stands beyond the lists of a roomy local type.
func BeyondLocal(l api.Local) api.Local {
	beyond := api.Local{Turns: BeyondList(l.Turns)}
	for _, t := range l.Turns {
		beyond.Turns = append(beyond.Turns, api.Turn{Arms: BeyondList(t.Arms)})
	}
	return beyond
}

// SpoilLocal writes to all memory of l, also to what an append would get.
func SpoilLocal(l api.Local) {
	for _, t := range l.Turns {
		spoilArms(t.Arms)
	}
	SpoilList(l.Turns, api.Turn{Kind: 9, Peer: "spoiled"})
}

func spoilArms(l []api.Arm) { SpoilList(l, api.Arm{Label: "spoiled", Next: -7}) }

// ApartLocal reports whether no two turns of l share memory. It writes to it.
func ApartLocal(l api.Local) bool {
	var lists [][]api.Arm
	for _, t := range l.Turns {
		lists = append(lists, t.Arms)
	}
	return apartArms(lists)
}

func apartArms(lists [][]api.Arm) bool {
	return ApartLists(lists, func(i int) api.Arm { return api.Arm{Next: i} })
}
