package sketch

import "slices"

// RoomyList returns a copy of l with memory beyond its length, in which these stand.
func RoomyList[T any](l []T, beyond ...T) []T {
	return append(slices.Clone(l), beyond...)[:len(l)]
}

// BeyondList returns a copy of the next two in the memory beyond the length of a roomy list.
func BeyondList[T any](l []T) []T {
	return slices.Clone(l[len(l) : len(l)+2])
}

// SpoilList writes x to all memory of l, also to what an append would get.
func SpoilList[T any](l []T, x T) {
	all := l[:cap(l)]
	for i := range all {
		all[i] = x
	}
}

// ApartLists reports whether no two of the lists share memory, not even that which an append would get. It writes to all of them what mark says of their indices, each time something else.
func ApartLists[T comparable](lists [][]T, mark func(i int) T) bool {
	for i, l := range lists {
		SpoilList(l, mark(i))
	}
	for i, l := range lists {
		// What is still its own was written by no other.
		if slices.ContainsFunc(l[:cap(l)], func(x T) bool { return x != mark(i) }) {
			return false
		}
	}
	return true
}
