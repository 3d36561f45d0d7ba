package sketch

import (
	"slices"

	"repartee/api"
)

// SameProtocol reports whether two protocols are the same, role by role and point by point, and have the same Name.
func SameProtocol(a, b api.Protocol) bool {
	return a.Name == b.Name && slices.Equal(a.Roles, b.Roles) && slices.EqualFunc(a.Points, b.Points, func(x, y api.Point) bool {
		return x.From == y.From && x.To == y.To && slices.Equal(x.Arms, y.Arms)
	})
}

// CopyProtocol returns p in memory of its own.
func CopyProtocol(p api.Protocol) api.Protocol {
	p.Roles, p.Points = slices.Clone(p.Roles), slices.Clone(p.Points)
	for i := range p.Points {
		p.Points[i].Arms = slices.Clone(p.Points[i].Arms)
	}
	return p
}

// RoomyProtocol returns a copy of p with two more in the memory beyond the length of each list, which would count if they were read.
func RoomyProtocol(p api.Protocol) api.Protocol {
	p.Roles = RoomyList(p.Roles, "beyond", "A")
	p.Points = RoomyList(p.Points, Point("a-b!beyond:5beyond>0"), Point("a-a!x>0"))
	for i := range p.Points {
		p.Points[i].Arms = roomyArms(p.Points[i].Arms)
	}
	return p
}

// BeyondProtocol returns what stands beyond the lists of a roomy protocol.
func BeyondProtocol(p api.Protocol) api.Protocol {
	beyond := api.Protocol{Roles: BeyondList(p.Roles), Points: BeyondList(p.Points)}
	for _, x := range p.Points {
		beyond.Points = append(beyond.Points, api.Point{Arms: BeyondList(x.Arms)})
	}
	return beyond
}

// SpoilProtocol writes to all memory of p, also to what an append would get.
func SpoilProtocol(p api.Protocol) {
	for _, x := range p.Points {
		spoilArms(x.Arms)
	}
	SpoilList(p.Points, api.Point{From: "spoiled", To: "spoiled"})
	SpoilList(p.Roles, "spoiled")
}

// ApartProtocol reports whether no two points of p share memory. It writes to it.
func ApartProtocol(p api.Protocol) bool {
	var lists [][]api.Arm
	for _, x := range p.Points {
		lists = append(lists, x.Arms)
	}
	return apartArms(lists)
}
