package probe

import (
	"slices"
	"strconv"

	"repartee/api"
	"repartee/stage"
)

// finding is a stage that was found, with the index of the one from which it was first met (-1 for the stage of Begin) and that of the move.
type finding struct {
	stage      api.Stage
	from, move int
	stuck      bool
}

// search is a breadth-first search. The stages found stand in the order in which they were first met, and are the queue of those to be visited: the ones already visited stay in it, as a way may lead through them.
type search struct {
	b       api.Book
	roles   []string
	most    int
	found   []finding
	keys    map[string]bool
	skipped bool
}

// meet adds what may be a new stage to those found, unless there are enough of them.
func (s *search) meet(f finding) {
	key := keyOf(f.stage)
	if s.keys[key] {
		return
	}
	if len(s.found) == s.most {
		s.skipped = true
		return
	}
	s.keys[key] = true
	s.found = append(s.found, f)
}

// visit meets the stages to which the moves of a stage found lead, and notes whether that stage is stuck.
func (s *search) visit(at int) {
	here := s.found[at].stage
	moves := stage.Moves(s.b, s.roles, here)
	s.found[at].stuck = len(moves) == 0 && !hasFullQueue(here) && !stage.Over(s.b, s.roles, here)
	for i, m := range moves {
		// Where one stage is skipped all further ones are, so there is no need to know them.
		if s.skipped {
			return
		}
		// What Moves returns is possible, so Do does not refuse it.
		next, _ := stage.Do(s.b, s.roles, here, m)
		s.meet(finding{stage: next, from: at, move: i})
	}
}

// report tells what was found, when all of it was visited.
func (s *search) report() api.Report {
	r := api.Report{States: len(s.found), Long: make([]int, len(s.roles)*len(s.roles))}
	for _, f := range s.found {
		for i, queue := range f.stage.Mail {
			r.Long[i] = max(r.Long[i], len(queue))
		}
	}
	r.Whole = !s.skipped && !slices.Contains(r.Long, api.MaxMail)
	if at := slices.IndexFunc(s.found, func(f finding) bool { return f.stuck }); at >= 0 {
		r.Stuck = true
		r.Way = s.wayTo(at)
	}
	return r
}

// wayTo returns the moves by which a stage found was first met.
func (s *search) wayTo(at int) []int {
	var way []int
	for f := s.found[at]; f.from >= 0; f = s.found[f.from] {
		way = append(way, f.move)
	}
	slices.Reverse(way)
	return way
}

func hasFullQueue(s api.Stage) bool {
	return slices.ContainsFunc(s.Mail, func(queue []string) bool { return len(queue) == api.MaxMail })
}

// keyOf returns a text that two stages of one search share only if they are the same: the letters that can be under way are names, in which there is neither a comma nor a semicolon.
func keyOf(s api.Stage) string {
	var key []byte
	for _, at := range s.At {
		key = strconv.AppendInt(key, int64(at), 10)
		key = append(key, ',')
	}
	for _, queue := range s.Mail {
		key = append(key, ';')
		for _, label := range queue {
			key = append(key, label...)
			key = append(key, ',')
		}
	}
	return string(key)
}
