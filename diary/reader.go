package diary

import (
	"slices"

	"coachyard/api"
)

// reader goes through a diary's events, in order. Its spans share their lists with the events.
type reader struct {
	step    int // of the last event
	spans   []api.Span
	workers [api.MaxWorkers]worker
}

// worker is what the events so far tell of one worker.
type worker struct {
	begun int  // how many calls
	open  bool // hasn't the last one of them ended?
	last  int  // which one of the spans that is
}

// readAll tells whether l is a right diary; its calls are the spans then.
func (r *reader) readAll(l []api.Event) bool {
	for place, event := range l {
		if !r.read(place, event) {
			return false
		}
	}
	return true
}

// read tells whether event can stand behind the events so far.
func (r *reader) read(place int, event api.Event) bool {
	// The first event is held against a step of 0, below which there is none.
	if event.Step < r.step || event.Who < 0 || event.Who >= api.MaxWorkers {
		return false
	}
	r.step = event.Step
	if event.Ends {
		return r.end(place, event)
	}
	return r.begin(place, event)
}

func (r *reader) begin(place int, event api.Event) bool {
	w := &r.workers[event.Who]
	if w.open || event.Nth != w.begun || !isZero(event.Result) {
		return false
	}
	*w = worker{begun: w.begun + 1, open: true, last: len(r.spans)}
	r.spans = append(r.spans, api.Span{Who: event.Who, Nth: event.Nth, From: place, To: -1, Call: event.Call})
	return true
}

func (r *reader) end(place int, event api.Event) bool {
	w := &r.workers[event.Who]
	if !w.open {
		return false
	}
	s := &r.spans[w.last]
	if event.Nth != s.Nth || !isSame(event.Call, s.Call) {
		return false
	}
	w.open = false
	s.To, s.Result = place, event.Result
	return true
}

func isZero(r api.Result) bool {
	return r.Code == api.Fine && r.V == 0 && len(r.L) == 0
}

func isSame(a, b api.Call) bool {
	return a.Kind == b.Kind && a.Task == b.Task && slices.Equal(a.Victims, b.Victims)
}
