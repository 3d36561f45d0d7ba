package sketch

import (
	"strings"

	"repartee/api"
)

// Local reads a local type with this Name: its turns, separated by blanks. It may be invalid.
func Local(name, turns string) api.Local {
	l := api.Local{Name: name}
	for _, word := range strings.Fields(turns) {
		kind, peer, arms := step(word)
		l.Turns = append(l.Turns, api.Turn{Kind: kind, Peer: peer, Arms: Arms(arms)})
	}
	return l
}

// Protocol reads a protocol with this Name: its roles and its points, separated by blanks. It may be invalid.
func Protocol(name, roles, points string) api.Protocol {
	p := api.Protocol{Name: name, Roles: strings.Fields(roles)}
	for _, word := range strings.Fields(points) {
		p.Points = append(p.Points, Point(word))
	}
	return p
}

// Point reads a point: a dot (the end), or its From, -, its To, ! and its arms.
func Point(word string) api.Point {
	if word == "." {
		return api.Point{}
	}
	who, arms, _ := strings.Cut(word, "!")
	from, to, _ := strings.Cut(who, "-")
	return api.Point{From: from, To: to, Arms: Arms(arms)}
}

// Arms reads arms, separated by commas: each is its label, perhaps a colon, a digit for the Kind that it carries and the Name, and behind > the Next.
func Arms(text string) []api.Arm {
	var l []api.Arm
	for _, word := range words(text) {
		label, carries, next := choice(word)
		l = append(l, api.Arm{Label: label, Carries: carried(carries), Next: next})
	}
	return l
}

// carried reads what an arm carries; any byte may stand for a Kind, so that it may be wrong.
func carried(text string) api.Carries {
	if text == "" {
		return api.Carries{}
	}
	return api.Carries{Kind: int(text[0]) - '0', Name: text[1:]}
}
