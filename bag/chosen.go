package bag

import (
	"cmp"
	"slices"

	"coachyard/api"
)

// chosen tells the places in l of the spans that which chooses, rising.
func chosen(l []api.Span, which func(api.Span) bool) []int {
	var places []int
	for place, s := range l {
		if which(s) {
			places = append(places, place)
		}
	}
	return places
}

// ended tells what chooses the calls of that kind that ended with the code e.
func ended(kind int, e api.Code) func(api.Span) bool {
	return func(s api.Span) bool {
		return s.To >= 0 && s.Call.Kind == kind && s.Result.Code == e
	}
}

// open tells what chooses the calls of that kind that haven't ended.
func open(kind int) func(api.Span) bool {
	return func(s api.Span) bool {
		return s.To < 0 && s.Call.Kind == kind
	}
}

func isAdding(s api.Span) bool {
	return open(api.Submit)(s) || ended(api.Submit, api.Fine)(s)
}

func isTaking(s api.Span) bool {
	return ended(api.Next, api.Fine)(s)
}

func from(s api.Span) int {
	return s.From
}

func to(s api.Span) int {
	return s.To
}

// moment tells where an adding or a taking stands in an order.
func moment(s api.Span) int {
	if isTaking(s) {
		return s.To
	}
	return s.From
}

// sortBy sorts places by the numbers of their spans; those of one number stay in their order.
func sortBy(l []api.Span, places []int, number func(api.Span) int) {
	slices.SortStableFunc(places, func(a, b int) int {
		return cmp.Compare(number(l[a]), number(l[b]))
	})
}

// byMoment tells both lists' places by their moments, at one moment the first list's ahead of the second one's.
func byMoment(l []api.Span, first, second []int) []int {
	places := slices.Concat(first, second)
	sortBy(l, places, moment)
	return places
}

// numbers tells the numbers of the spans at those places, rising.
func numbers(l []api.Span, places []int, number func(api.Span) int) []int {
	var all []int
	for _, place := range places {
		all = append(all, number(l[place]))
	}
	slices.Sort(all)
	return all
}

// countBelow tells how many of rising are below n.
func countBelow(rising []int, n int) int {
	count, _ := slices.BinarySearch(rising, n)
	return count
}
