package bag

import "coachyard/api"

// giving is what takings haven't been given of the addings that have begun, task by task.
type giving struct {
	ended  map[uint64]int   // how many that have ended
	open   map[uint64][]int // the places of those that haven't, by their From
	needed []int            // the places of those that haven't ended and are given
}

// give gives all takings of l their addings; false, if there is none for one of them.
func give(l []api.Span) (giving, bool) {
	g := giving{ended: map[uint64]int{}, open: map[uint64][]int{}}
	// An adding's From must be below the taking's To: at one number the takings come first.
	for _, place := range byMoment(l, chosen(l, isTaking), chosen(l, isAdding)) {
		s := l[place]
		if !isTaking(s) {
			g.add(place, s)
		} else if !g.take(s.Result.V) {
			return giving{}, false
		}
	}
	return g, true
}

func (g *giving) add(place int, s api.Span) {
	task := s.Call.Task
	if s.To < 0 {
		g.open[task] = append(g.open[task], place)
	} else {
		g.ended[task]++
	}
}

// take gives a taking an adding of its task, one that hasn't ended only if there is no other.
func (g *giving) take(task uint64) bool {
	if g.ended[task] > 0 {
		g.ended[task]--
		return true
	}
	open := g.open[task]
	if len(open) == 0 {
		return false
	}
	g.needed = append(g.needed, open[0])
	g.open[task] = open[1:]
	return true
}
