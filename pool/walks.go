package pool

import (
	"slices"

	"coachyard/api"
	"coachyard/local"
	"coachyard/walk"
)

// mostVictims of those that are handed in play a part.
const mostVictims = 64

// errand is a walk of a worker from part to part of a pool.
type errand struct {
	*walk.Walk
	*Pool
	worker int
}

// submitting is an errand that lays a task in: at the worker's row, or else in the queue.
type submitting struct {
	errand
	task uint64
	list []uint64 // half of the row, which was full; it must be put with the task, or else be given back
}

// seeking is an errand for a task: of the worker's row, of the queue, or of others' rows.
type seeking struct {
	errand
	victims   []int
	left      []int // those at whose rows it has still to look
	searching bool
	result    api.Result
}

// parking is an errand that waits till somebody calls the worker, if there is nothing to do.
type parking struct {
	errand
	key    uint32
	looked int // at how many rows
	waited uint64
	chosen bool
}

// Submit lays v in, by the worker i.
func (p *Pool) Submit(i int, v uint64) *walk.Walk {
	return p.begun(i, func(e errand) {
		s := &submitting{errand: e, task: v}
		s.Into(s.own().Push(s.task), s.pushed)
	})
}

// Next tells a task to the worker i, who asks the victims ahead of all others.
func (p *Pool) Next(i int, victims []int) *walk.Walk {
	return p.begun(i, func(e errand) {
		s := &seeking{errand: e, result: api.Result{Code: api.Empty}}
		s.victims = slices.Clone(victims[:min(len(victims), mostVictims)])
		s.Into(s.own().Pop(), s.popped)
	})
}

// Park lets the worker i wait, unless there is something to do.
func (p *Pool) Park(i int) *walk.Walk {
	return p.begun(i, func(e errand) {
		k := &parking{errand: e}
		k.Into(k.Plan().Spot(k.worker).Prepare(), k.prepared)
	})
}

// begun makes a walk of the worker i, or one that is refused.
func (p *Pool) begun(i int, begin func(e errand)) *walk.Walk {
	if !p.has(i) {
		return p.refusal()
	}
	return walk.New(func(w *walk.Walk) {
		begin(errand{Walk: w, Pool: p, worker: i})
	})
}

// refusal is a walk of who isn't there, or of a call that there isn't.
func (p *Pool) refusal() *walk.Walk {
	return walk.New(func(w *walk.Walk) {
		if p == nil {
			w.Break(api.Nil)
			return
		}
		w.Break(api.Arg)
	})
}

// own tells the worker's row.
func (e *errand) own() local.Row {
	return e.Row(e.worker)
}

// wake calls one who is idle, if nobody searches; then it goes on.
func (e *errand) wake(then func()) {
	e.Into(e.Plan().Yard().Choose(), func(r api.Result) {
		if r.Code != api.Fine {
			then()
			return
		}
		e.Into(e.Plan().Spot(int(r.V)).Call(), func(api.Result) { then() })
	})
}

func (s *submitting) pushed(r api.Result) {
	switch r.Code {
	case api.Fine:
		s.wake(s.finish)
	case api.Full, api.Busy:
		s.list = r.L
		s.Into(s.Plan().Line().Put(append(r.L, s.task)), s.put)
	default:
		s.Break(r.Code)
	}
}

func (s *submitting) put(r api.Result) {
	switch r.Code {
	case api.Fine:
		s.wake(s.finish)
	case api.NoMem:
		s.giveBack()
	default:
		s.Break(r.Code)
	}
}

// giveBack pushes again what the row had given, as there are too few nodes; of a row that gave nothing there is nothing to do.
func (s *submitting) giveBack() {
	if len(s.list) == 0 {
		s.Break(api.Full)
		return
	}
	v := s.list[0]
	s.list = s.list[1:]
	s.Into(s.own().Push(v), s.isBack)
}

func (s *submitting) isBack(r api.Result) {
	if r.Code != api.Fine {
		s.Break(api.Broken)
		return
	}
	s.giveBack()
}

func (s *submitting) finish() {
	s.End(api.Result{})
}

func (s *seeking) popped(r api.Result) {
	if r.Code != api.Empty {
		s.End(r)
		return
	}
	s.Into(s.Plan().Line().Take(), s.took)
}

func (s *seeking) took(r api.Result) {
	if r.Code != api.Empty {
		s.End(r)
		return
	}
	s.Into(s.Plan().Yard().Search(s.worker), s.begin)
}

// begin goes to the others' rows. Who may not be counted as searching goes there, too.
func (s *seeking) begin(r api.Result) {
	s.searching = r.Code == api.Fine
	s.left = s.order()
	s.steal()
}

// order tells in which order it goes to the others: the victims first, and then all, lest one be left out.
func (s *seeking) order() []int {
	l := slices.DeleteFunc(s.victims, func(i int) bool { return !s.has(i) })
	for i := range s.workers() {
		l = append(l, i)
	}
	return slices.DeleteFunc(l, func(i int) bool { return i == s.worker })
}

func (s *seeking) steal() {
	if len(s.left) == 0 {
		s.stop()
		return
	}
	s.Into(s.Row(s.left[0]).Steal(s.own()), s.stolen)
}

func (s *seeking) stolen(r api.Result) {
	switch r.Code {
	case api.Abort:
		s.steal()
	case api.Empty, api.Busy, api.Full:
		s.left = s.left[1:]
		s.steal()
	default:
		s.result = r
		s.stop()
	}
}

func (s *seeking) stop() {
	if !s.searching {
		s.finish()
		return
	}
	s.Into(s.Plan().Yard().Found(s.worker), s.stopped)
}

// stopped wakes another one, if it was the last who searched: where one task was there may be more.
func (s *seeking) stopped(r api.Result) {
	if r.V == 1 && s.result.Code == api.Fine {
		s.wake(s.finish)
		return
	}
	s.finish()
}

func (s *seeking) finish() {
	s.End(s.result)
}

func (k *parking) prepared(r api.Result) {
	k.key = uint32(r.V)
	k.Into(k.Plan().Yard().Sleep(k.worker), k.asleep)
}

func (k *parking) asleep(api.Result) {
	k.look()
}

// look goes to all rows and to the queue: what is laid in behind its look, by that one it is called.
func (k *parking) look() {
	if k.looked < k.workers() {
		k.Into(k.Row(k.looked).Peek(), k.saw)
		return
	}
	k.Into(local.Peek(k.Plan().Line()), k.sawLast)
}

func (k *parking) saw(r api.Result) {
	if something(r) {
		k.rise()
		return
	}
	k.looked++
	k.look()
}

func (k *parking) sawLast(r api.Result) {
	if something(r) {
		k.rise()
		return
	}
	k.waited = 1
	k.Into(k.Plan().Spot(k.worker).Wait(k.key), k.woken)
}

func (k *parking) woken(api.Result) {
	k.rise()
}

func (k *parking) rise() {
	k.Into(k.Plan().Yard().Leave(k.worker), k.risen)
}

// risen: who isn't idle any more by another one's doing was chosen, and is counted as searching.
func (k *parking) risen(r api.Result) {
	k.chosen = r.Code == api.Empty
	k.Into(k.Plan().Spot(k.worker).GiveUp(), k.gaveUp)
}

func (k *parking) gaveUp(r api.Result) {
	if k.chosen {
		k.Into(k.Plan().Yard().Found(k.worker), k.finish)
		return
	}
	k.finish(r)
}

func (k *parking) finish(api.Result) {
	k.End(api.Result{V: k.waited})
}

// something tells whether a look isn't sure that there is nothing to do.
func something(r api.Result) bool {
	return r.Code != api.Fine || r.V != 0
}
