package sketch

import (
	"slices"
	"strconv"
	"strings"

	"repartee/api"
)

// Stage reads a stage: the nodes at which the roles are, separated by blanks, and the queues that are not empty, separated by blanks: each is two digits for the indices of its roles, from and to, a colon and its labels, separated by commas.
func Stage(at, mail string) api.Stage {
	s := api.Stage{At: Numbers(at)}
	n := len(s.At)
	s.Mail = make([][]string, n*n)
	for _, word := range strings.Fields(mail) {
		queue, labels, _ := strings.Cut(word, ":")
		s.Mail[number(queue[:1])*n+number(queue[1:])] = words(labels)
	}
	return s
}

// Moves reads moves, separated by blanks: each is the index of its role, then ! (a Send) or ? (a Recv), then its label.
func Moves(text string) []api.Move {
	var l []api.Move
	for _, word := range strings.Fields(text) {
		kind, role, label := step(word)
		l = append(l, api.Move{Kind: kind, Role: number(role), Label: label})
	}
	return l
}

// SameStage reports whether two stages are the same, role by role and queue by queue.
func SameStage(a, b api.Stage) bool {
	return slices.Equal(a.At, b.At) && slices.EqualFunc(a.Mail, b.Mail, func(x, y []string) bool { return slices.Equal(x, y) })
}

// CopyStage returns s in memory of its own.
func CopyStage(s api.Stage) api.Stage {
	c := api.Stage{At: slices.Clone(s.At), Mail: slices.Clone(s.Mail)}
	for i := range c.Mail {
		c.Mail[i] = slices.Clone(c.Mail[i])
	}
	return c
}

// RoomyStage returns a copy of s with two more in the memory beyond the length of each list, which would count if they were read.
func RoomyStage(s api.Stage) api.Stage {
	c := api.Stage{At: RoomyList(s.At, 0, -1), Mail: RoomyList(s.Mail, []string{"beyond"}, nil)}
	for i := range c.Mail {
		c.Mail[i] = RoomyList(c.Mail[i], "x", "beyond")
	}
	return c
}

// BeyondStage returns what stands beyond the lists of a roomy stage.
func BeyondStage(s api.Stage) api.Stage {
	beyond := api.Stage{At: BeyondList(s.At), Mail: BeyondList(s.Mail)}
	for _, queue := range s.Mail {
		beyond.Mail = append(beyond.Mail, BeyondList(queue))
	}
	return beyond
}

// SpoilStage writes to all memory of s, also to what an append would get.
func SpoilStage(s api.Stage) {
	for _, queue := range s.Mail {
		SpoilList(queue, "spoiled")
	}
	SpoilList(s.Mail, []string{"spoiled"})
	SpoilList(s.At, -7)
}

// ApartStage reports whether no two queues of s share memory. It writes to it.
func ApartStage(s api.Stage) bool {
	return ApartLists(s.Mail, strconv.Itoa)
}
