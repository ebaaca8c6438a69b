package bag

import (
	"math"
	"slices"

	"coachyard/api"
)

// stay is of one task the place where its adding ended, and that where a taking of it began (the last place of all, if none did).
type stay struct {
	came, gone int
}

// stays tells a stay of each adding of l that has ended, by came.
// The n-th adding of a task, by To, goes with the n-th taking of it, by From: so the task's addings that ended below f, less its takings that began below t, but no less than 0, are as many as its stays with came below f and gone not below t.
func stays(l []api.Span) []stay {
	taken := takenFrom(l)
	added := map[uint64]int{}
	addings := chosen(l, ended(api.Submit, api.Fine))
	sortBy(l, addings, to)
	var all []stay
	for _, place := range addings {
		task := l[place].Call.Task
		gone := math.MaxInt
		if n := added[task]; n < len(taken[task]) {
			gone = taken[task][n]
		}
		added[task]++
		all = append(all, stay{came: l[place].To, gone: gone})
	}
	return all
}

// takenFrom tells of each task the From of all its takings, rising.
func takenFrom(l []api.Span) map[uint64][]int {
	takings := chosen(l, isTaking)
	sortBy(l, takings, from)
	taken := map[uint64][]int{}
	for _, place := range takings {
		task := l[place].Result.V
		taken[task] = append(taken[task], l[place].From)
	}
	return taken
}

// thereFor tells by the places of those that were refused for how many tasks each of them had no moment without.
func thereFor(l []api.Span, refused []int) map[int]int {
	all := stays(l)
	gone := goneOf(all)
	sum := make(sums, len(gone))
	there := map[int]int{}
	came := 0
	refused = slices.Clone(refused)
	sortBy(l, refused, from)
	for _, place := range refused {
		for came < len(all) && all[came].came < l[place].From {
			sum.add(countBelow(gone, all[came].gone))
			came++
		}
		there[place] = came - sum.below(countBelow(gone, l[place].To))
	}
	return there
}

// goneOf tells where those stays end, rising.
func goneOf(all []stay) []int {
	var gone []int
	for _, s := range all {
		gone = append(gone, s.gone)
	}
	slices.Sort(gone)
	return gone
}

// sums counts what comes at places, such that neither coming nor counting goes through all of them.
type sums []int

func (s sums) add(place int) {
	for i := place + 1; i <= len(s); i += i & -i {
		s[i-1]++
	}
}

// below tells how many came at places below that one.
func (s sums) below(place int) int {
	n := 0
	for i := place; i > 0; i -= i & -i {
		n += s[i-1]
	}
	return n
}
