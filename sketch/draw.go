package sketch

import "repartee/api"

// Draw returns a number from 0 on that is less than n, as Intn of a random source does.
type Draw func(n int) int

// Session draws up to five roles, a valid book of up to twelve nodes, in which the peers are these roles and sometimes another one, and the node at which each role begins.
func (draw Draw) Session() ([]string, api.Book, []int) {
	roles := shuffled(draw, "a", "b", "c", "d", "aa", "b2")[:1+draw(5)]
	n := 1 + draw(12)
	b := Made(n, func(int) api.Node { return draw.node(roles, n) })
	var roots []int
	for range roles {
		roots = append(roots, draw(n))
	}
	return roles, b, roots
}

// node draws a node of a book of n nodes.
func (draw Draw) node(roles []string, n int) api.Node {
	if draw(8) == 0 {
		return api.Node{}
	}
	x := api.Node{Kind: api.Send + draw(2), Peer: roles[draw(len(roles))]}
	if draw(12) == 0 {
		x.Peer = "nobody"
	}
	for _, label := range []string{"x", "x2", "y", "z"} {
		if draw(2) == 0 || label == "z" && len(x.Arms) == 0 {
			x.Arms = append(x.Arms, api.Edge{Label: label, Sort: draw.sort(n), Next: draw(n)})
		}
	}
	return x
}

// sort draws what a label carries in a book of n nodes.
func (draw Draw) sort(n int) api.Sort {
	sort := api.Sort{Kind: draw(6)}
	if sort.Kind == api.Chan {
		sort.At = draw(n)
	}
	return sort
}

// Protocol draws a valid protocol of these roles, with up to n points. If there are two roles, it is projectable to both.
func (draw Draw) Protocol(roles []string, n int) api.Protocol {
	p := api.Protocol{Name: "p", Roles: shuffled(draw, roles...), Points: make([]api.Point, 1+draw(n))}
	for i := range p.Points {
		if draw(5) == 0 {
			continue
		}
		sides := shuffled(draw, roles...)
		p.Points[i] = api.Point{From: sides[0], To: sides[1], Arms: draw.arms(len(p.Points))}
	}
	return p
}

// arms draws arms of a point in a protocol of n points, in any order.
func (draw Draw) arms(n int) []api.Arm {
	var l []api.Arm
	for _, label := range shuffled(draw, "x", "y", "z", "w")[:1+draw(3)] {
		l = append(l, api.Arm{Label: label, Next: draw(n)})
	}
	return l
}

// shuffled returns these in any order.
func shuffled[T any](draw Draw, some ...T) []T {
	l := make([]T, 0, len(some))
	for i, x := range some {
		j := draw(i + 1)
		l = append(l, x)
		l[i], l[j] = l[j], l[i]
	}
	return l
}
