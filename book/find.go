package book

import (
	"slices"

	"repartee/api"
	"repartee/globe"
	"repartee/names"
	"repartee/turns"
)

// place is where a fault is. The parts are the protocols and then the local types, numbered in one row.
type place struct{ part, at int }

// findInvalid finds the first part that is not valid.
func findInvalid(ps []api.Protocol, ls []api.Local) (place, bool) {
	if len(ps) > api.MaxProtocols || len(ls) > api.MaxLocals {
		return place{-1, -1}, true
	}
	for i, p := range ps {
		if !globe.May(p) {
			return place{i, -1}, true
		}
	}
	for i, l := range ls {
		if !turns.May(l) || !names.May(l.Name) {
			return place{len(ps) + i, -1}, true
		}
	}
	return place{}, false
}

// findAgain finds the first part whose Name is that of an earlier one.
func findAgain(ps []api.Protocol, ls []api.Local) (place, bool) {
	var all []string
	for _, p := range ps {
		all = append(all, p.Name)
	}
	for _, l := range ls {
		all = append(all, l.Name)
	}
	for part, name := range all {
		if names.Has(all[:part], name) {
			return place{part, -1}, true
		}
	}
	return place{}, false
}

// findUnknown finds the first point or turn, reachable or not, that carries a Chan whose Name is not a known one.
func findUnknown(ps []api.Protocol, ls []api.Local, known []string) (place, bool) {
	unknown := func(a api.Arm) bool {
		return a.Carries.Kind == api.Chan && !names.Has(known, a.Carries.Name)
	}
	for i, p := range ps {
		if at := slices.IndexFunc(p.Points, func(x api.Point) bool { return slices.ContainsFunc(x.Arms, unknown) }); at >= 0 {
			return place{i, at}, true
		}
	}
	for i, l := range ls {
		if at := slices.IndexFunc(l.Turns, func(t api.Turn) bool { return slices.ContainsFunc(t.Arms, unknown) }); at >= 0 {
			return place{len(ps) + i, at}, true
		}
	}
	return place{}, false
}

// findTooMany finds the first part whose types do not fit into the book any more.
func findTooMany(types [][]api.Local) (place, bool) {
	nodes := 0
	for part, added := range types {
		for _, l := range added {
			nodes += len(l.Turns)
		}
		if nodes > api.MaxNodes {
			return place{part, -1}, true
		}
	}
	return place{}, false
}
