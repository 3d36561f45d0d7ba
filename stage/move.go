package stage

import (
	"slices"

	"repartee/api"
)

// step is a possible move, with the queue that it changes and the node to which its role moves.
type step struct {
	move        api.Move
	queue, next int
}

// Moves returns the possible moves, role by role.
func Moves(b api.Book, roles []string, s api.Stage) []api.Move {
	if !May(b, roles, s) {
		return nil
	}
	var moves []api.Move
	for _, possible := range steps(b, roles, s) {
		moves = append(moves, possible.move)
	}
	return moves
}

// Do returns the stage after this move.
func Do(b api.Book, roles []string, s api.Stage, m api.Move) (api.Stage, api.Errno) {
	if !May(b, roles, s) {
		return api.Stage{}, api.ErrStageForm
	}
	for _, possible := range steps(b, roles, s) {
		if possible.move == m {
			return after(s, possible), api.OK
		}
	}
	return api.Stage{}, api.ErrStageMove
}

// steps returns the possible moves of a valid stage, role by role. The labels of each role rise, as those of a valid node do.
func steps(b api.Book, roles []string, s api.Stage) []step {
	var l []step
	for role, at := range s.At {
		n := b.Nodes[at]
		queue, is := queueOf(roles, role, n)
		if !is {
			continue
		}
		for _, e := range n.Arms {
			if passes(n.Kind, s.Mail[queue], e.Label) {
				l = append(l, step{api.Move{Kind: n.Kind, Role: role, Label: e.Label}, queue, e.Next})
			}
		}
	}
	return l
}

// queueOf returns the index of the queue that a role at this node sends to or receives from; false if there is none.
func queueOf(roles []string, role int, n api.Node) (int, bool) {
	peer := slices.Index(roles, n.Peer)
	if peer < 0 || peer == role {
		return 0, false
	}
	switch n.Kind {
	case api.Send:
		return role*len(roles) + peer, true
	case api.Recv:
		return peer*len(roles) + role, true
	}
	// The Peer of an End is empty, and a role may have that name.
	return 0, false
}

// passes reports whether a letter with this label can be put into the queue (for a Send) or taken from it (for a Recv).
func passes(kind int, queue []string, label string) bool {
	if kind == api.Send {
		return len(queue) < api.MaxMail
	}
	return len(queue) > 0 && queue[0] == label
}

// after returns the stage after a possible move, in memory of its own.
func after(s api.Stage, done step) api.Stage {
	next := copyOf(s)
	next.At[done.move.Role] = done.next
	queue := next.Mail[done.queue]
	if done.move.Kind == api.Send {
		next.Mail[done.queue] = append(queue, done.move.Label)
	} else {
		next.Mail[done.queue] = queue[1:]
	}
	return next
}

// copyOf returns s in memory of its own, so that its queues can be changed.
func copyOf(s api.Stage) api.Stage {
	c := api.Stage{At: slices.Clone(s.At), Mail: slices.Clone(s.Mail)}
	for i, queue := range c.Mail {
		c.Mail[i] = slices.Clone(queue)
	}
	return c
}
