package pool_test

import (
	"fmt"
	"math"
	"slices"
	"testing"

	"coachyard/api"
	"coachyard/local"
	"coachyard/pool"
	"coachyard/walk"
)

// P14.1

func load(cell int) api.Access {
	return api.Access{Kind: api.Load, Cell: cell}
}

func store(cell int, v uint64) api.Access {
	return api.Access{Kind: api.Store, Cell: cell, A: v}
}

func cas(cell int, from, to uint64) api.Access {
	return api.Access{Kind: api.Cas, Cell: cell, A: from, B: to}
}

// step is an access that a walk must want, what it must hold then, and what is given to it.
type step struct {
	want api.Access
	v    uint64
	won  bool
	held []uint64
}

// reads is a step of one who holds nothing.
func reads(cell int, v uint64) step {
	return step{load(cell), v, true, nil}
}

// does is another access that wins, of one who holds nothing.
func does(kind, cell int, a, v uint64) step {
	return step{api.Access{Kind: kind, Cell: cell, A: a}, v, true, nil}
}

// wins is a Cas that wins, of one who holds nothing.
func wins(cell int, from, to uint64) step {
	return step{cas(cell, from, to), from, true, nil}
}

// steps are parts of a walk, one behind the other.
func steps(parts ...[]step) []step {
	return slices.Concat(parts...)
}

// goes gives w what the steps tell, and looks that it wants and holds just these, and ends behind them, not ahead.
func goes(t *testing.T, w *walk.Walk, end api.Result, steps ...step) {
	t.Helper()
	goesOn(t, w, steps...)
	isEnded(t, w, end)
	// What is given then changes nothing.
	w.Give(3, true)
	w.Give(0, false)
	isEnded(t, w, end)
}

func goesOn(t *testing.T, w *walk.Walk, steps ...step) {
	t.Helper()
	for i, s := range steps {
		if a, ok := w.Want(); !ok || a != s.want {
			t.Fatalf("step %d: it wants %+v, %t, not %+v", i, a, ok, s.want)
		}
		if r, ok := w.Result(); ok || r.Code != 0 || r.V != 0 || len(r.L) != 0 {
			t.Fatalf("step %d: it has ended with %+v", i, r)
		}
		holds(t, w, s.held...)
		w.Give(s.v, s.won)
	}
}

func isEnded(t *testing.T, w *walk.Walk, end api.Result) {
	t.Helper()
	if r, ok := w.Result(); !ok || r.Code != end.Code || r.V != end.V || len(r.L) != 0 {
		t.Fatalf("it ended with %+v, %t, not with %+v", r, ok, end)
	}
	if a, ok := w.Want(); ok || a != (api.Access{}) {
		t.Fatalf("it has ended, and wants %+v", a)
	}
	holds(t, w)
}

func holds(t *testing.T, w *walk.Walk, want ...uint64) {
	t.Helper()
	if l := w.Held(); !slices.Equal(l, want) {
		t.Fatalf("it holds %d, not %d", l, want)
	}
}

// The cells of two workers with rows of 2 and a queue of 3 nodes: 0 the yard's, 1 and 2 the parkers', 3 and 4 the queue's head and tail, 5 its arena's head, 6 to 8 the links,
// 9 to 11 the nodes' tasks, 12 to 14 their nexts; 15 and 16 the first row's ends, 17 and 18 its slots; 19 and 20 the other one's ends, 21 and 22 its slots.

func pair2(t *testing.T, kind int) *pool.Pool {
	t.Helper()
	return poolOf(t, api.Config{Workers: 2, Kind: kind, Size: 2, Nodes: 3})
}

// These are steps at the yard.

func wakesNobody(cell uint64) []step {
	return []step{reads(0, cell)}
}

// wakes calls the worker who, who was idle alone.
func wakes(who int) []step {
	bit := uint64(1) << who
	return []step{reads(0, bit), wins(0, bit, pair(1, 0)), does(api.Add, 1+who, round, 1)}
}

func searches() []step {
	return []step{reads(0, 0), wins(0, 0, pair(1, 0))}
}

func mayNotSearch() []step {
	return []step{reads(0, pair(1, 0))}
}

func foundLast() []step {
	return []step{reads(0, pair(1, 0)), wins(0, pair(1, 0), 0)}
}

func foundNotLast() []step {
	return []step{reads(0, pair(2, 0)), wins(0, pair(2, 0), pair(1, 0))}
}

// These are steps at the queue.

func puts(v uint64) []step {
	h := some(v)
	return []step{{load(5), 2, true, h}, {load(7), 3, true, h}, {cas(5, 2, pair(1, 3)), 2, true, h}, {store(10, v), 0, true, h}, {load(13), 0, true, h}, {store(13, pair(1, 0)), 0, true, h},
		{load(4), 1, true, h}, {load(12), 0, true, h}, {load(4), 1, true, h}, {cas(12, 0, pair(1, 2)), 0, true, h}, wins(4, 1, pair(1, 2))}
}

func takes(v uint64) []step {
	h := some(v)
	return []step{reads(3, 1), reads(4, 2), reads(12, 2), reads(3, 1), reads(10, v), wins(3, 1, pair(1, 2)),
		{load(5), 3, true, h}, {store(6, 3), 9, true, h}, {cas(5, 3, pair(1, 1)), 3, true, h}}
}

func takesNothing() []step {
	return []step{reads(3, 1), reads(4, 1), reads(12, 0), reads(3, 1)}
}

// These are steps at deques: top is the cell where one begins.

func pushes(top int, v uint64) []step {
	h := some(v)
	return []step{{load(top + 1), 4, true, h}, {load(top), 4, true, h}, {store(top+2, v), 0, true, h}, {store(top+1, 5), 4, true, h}}
}

func isFull(top int, v uint64) []step {
	h := some(v)
	return []step{{load(top + 1), 6, true, h}, {load(top), 4, true, h}}
}

func popsNothing(top int) []step {
	return []step{reads(top+1, 4), does(api.Store, top+1, 3, 4), reads(top, 4), does(api.Store, top+1, 4, 3)}
}

func steals(top int, v uint64) []step {
	return []step{reads(top, 4), reads(top+1, 5), reads(top+2, v), wins(top, 4, 5)}
}

func loses(top int) []step {
	return []step{reads(top, 4), reads(top+1, 5), reads(top+2, 9), {cas(top, 4, 5), 5, false, nil}}
}

func stealsNothing(top int) []step {
	return []step{reads(top, 4), reads(top+1, 4)}
}

func TestSubmitWrittenOut(t *testing.T) {
	p := pair2(t, api.Deque)
	goes(t, p.Submit(0, 70), api.Result{}, steps(pushes(15, 70), wakesNobody(0))...)
	goes(t, p.Submit(1, 70), api.Result{}, steps(pushes(19, 70), wakesNobody(pair(1, 3)))...)
	goes(t, p.Submit(0, 70), api.Result{}, steps(pushes(15, 70), wakes(1))...)
	goes(t, p.Submit(1, 70), api.Result{}, steps(pushes(19, 70), wakes(0))...)
	goes(t, p.Submit(0, 70), api.Result{}, steps(pushes(15, 70), []step{reads(0, 3), {cas(0, 3, pair(1, 2)), pair(0, 2), false, nil}, wins(0, 2, pair(1, 0)), does(api.Add, 2, round, 0)})...)
	goes(t, p.Submit(0, 70), api.Result{}, steps(isFull(15, 70), puts(70), wakesNobody(0))...)
	goes(t, p.Submit(1, 70), api.Result{}, steps(isFull(19, 70), puts(70), wakes(0))...)
	// No node is left; a node that is none.
	h := some(70)
	goes(t, p.Submit(1, 70), api.Result{Code: api.Full}, steps(isFull(19, 70), []step{{load(5), 0, true, h}})...)
	goes(t, p.Submit(0, 70), api.Result{Code: api.Broken}, steps(isFull(15, 70), []step{{load(5), 4, true, h}})...)
}

func TestSubmitToARingWrittenOut(t *testing.T) {
	p, h := pair2(t, api.Ring), some(70)
	goes(t, p.Submit(0, 70), api.Result{}, steps([]step{{load(15), pair(4, 4), true, h}, {load(16), 5, true, h}, {store(18, 70), 0, true, h}, {store(16, 6), 5, true, h}}, wakes(1))...)
	// What is being stolen takes room still: the task comes into the queue alone.
	goes(t, p.Submit(1, 70), api.Result{}, steps([]step{{load(19), pair(4, 5), true, h}, {load(20), 6, true, h}}, puts(70), wakes(0))...)
	goes(t, p.Submit(1, 70), api.Result{Code: api.Full}, steps([]step{{load(19), pair(4, 5), true, h}, {load(20), 6, true, h}, {load(5), 0, true, h}})...)
	// Half of a full one comes into the queue ahead of the task.
	half := []step{{load(15), pair(4, 4), true, h}, {load(16), 6, true, h}, {cas(15, pair(4, 4), pair(5, 5)), pair(4, 4), true, h}, {load(17), 60, true, h}}
	both := some(60, 70)
	two := []step{{load(5), 2, true, both}, {load(7), 3, true, both}, {cas(5, 2, pair(1, 3)), 2, true, both}, {load(5), 3, true, both}, {load(8), 0, true, both}, {cas(5, 3, pair(1, 0)), 3, true, both},
		{store(10, 60), 0, true, both}, {load(13), 0, true, both}, {store(13, pair(1, 3)), 0, true, both}, {store(11, 70), 0, true, both}, {load(14), 0, true, both}, {store(14, pair(1, 0)), 0, true, both},
		{load(4), 1, true, both}, {load(12), 0, true, both}, {load(4), 1, true, both}, {cas(12, 0, pair(1, 2)), 0, true, both}, wins(4, 1, pair(1, 3))}
	goes(t, p.Submit(0, 70), api.Result{}, steps(half, two, wakes(1))...)
	// No node is left: what was in it comes back, the task doesn't.
	back := some(60)
	noNode := []step{{load(5), 0, true, both}}
	goes(t, p.Submit(0, 70), api.Result{Code: api.Full}, steps(half, noNode, []step{{load(15), pair(5, 5), true, back}, {load(16), 6, true, back}, {store(17, 60), 60, true, back}, {store(16, 7), 6, true, back}})...)
	goes(t, p.Submit(0, 70), api.Result{Code: api.Broken}, steps(half, noNode, []step{{load(15), pair(4, 5), true, back}, {load(16), 6, true, back}})...)
	goes(t, p.Submit(0, 70), api.Result{Code: api.Broken}, steps(half, []step{{load(5), 4, true, both}})...)
}

func TestNextWrittenOut(t *testing.T) {
	p := pair2(t, api.Deque)
	goes(t, p.Next(0, nil), api.Result{V: 70}, reads(16, 6), does(api.Store, 16, 5, 6), reads(15, 4), reads(18, 70))
	goes(t, p.Next(1, nil), api.Result{V: 70}, steps(popsNothing(19), takes(70))...)
	goes(t, p.Next(1, nil), api.Result{Code: api.Broken}, steps(popsNothing(19), []step{reads(3, 4)})...)
	nothing := steps(popsNothing(15), takesNothing())
	goes(t, p.Next(0, nil), api.Result{V: 70}, steps(nothing, searches(), steals(19, 70), foundNotLast())...)
	goes(t, p.Next(0, nil), api.Result{V: 70}, steps(nothing, searches(), steals(19, 70), foundLast(), wakesNobody(0))...)
	goes(t, p.Next(0, nil), api.Result{V: 70}, steps(nothing, searches(), steals(19, 70), foundLast(), wakes(1))...)
	goes(t, p.Next(0, nil), api.Result{V: 70}, steps(nothing, searches(), loses(19), loses(19), steals(19, 70), foundLast(), wakes(0))...)
	goes(t, p.Next(0, nil), api.Result{V: 70}, steps(nothing, mayNotSearch(), steals(19, 70))...)
	goes(t, p.Next(0, nil), api.Result{Code: api.Empty}, steps(nothing, mayNotSearch(), stealsNothing(19))...)
	goes(t, p.Next(0, nil), api.Result{Code: api.Empty}, steps(nothing, searches(), stealsNothing(19), foundLast())...)
	goes(t, p.Next(0, nil), api.Result{Code: api.Empty}, steps(nothing, searches(), loses(19), stealsNothing(19), foundNotLast())...)
	// Where nobody is counted any more, it isn't the last one.
	goes(t, p.Next(0, nil), api.Result{V: 70}, steps(nothing, searches(), steals(19, 70), []step{reads(0, 2)})...)
	goes(t, p.Next(0, nil), api.Result{Code: api.Empty}, steps(nothing, searches(), stealsNothing(19), []step{reads(0, 2)})...)
	// A task that is 0 is one.
	goes(t, p.Next(0, nil), api.Result{}, steps(nothing, searches(), steals(19, 0), foundLast(), wakes(1))...)
}

func TestNextOfRingsWrittenOut(t *testing.T) {
	p := pair2(t, api.Ring)
	goes(t, p.Next(1, nil), api.Result{V: 70}, reads(19, pair(4, 4)), reads(20, 6), wins(19, pair(4, 4), pair(5, 5)), reads(21, 70))
	nothing := steps([]step{reads(19, pair(4, 4)), reads(20, 4)}, takesNothing(), searches())
	room := []step{reads(20, 4), reads(19, pair(4, 4))}
	goes(t, p.Next(1, nil), api.Result{V: 70}, steps(nothing, room, []step{reads(15, pair(4, 4)), reads(16, 6), wins(15, pair(4, 4), pair(4, 5)), reads(17, 70), {load(15), pair(4, 5), true, some(70)},
		{cas(15, pair(4, 5), pair(5, 5)), pair(4, 5), true, some(70)}}, foundLast(), wakes(0))...)
	// Empty, Busy and Full are all the same: there is no task for it.
	goes(t, p.Next(1, nil), api.Result{Code: api.Empty}, steps(nothing, room, []step{reads(15, pair(4, 4)), reads(16, 4)}, foundLast())...)
	goes(t, p.Next(1, nil), api.Result{Code: api.Empty}, steps(nothing, room, []step{reads(15, pair(4, 5)), reads(16, 6)}, foundLast())...)
	goes(t, p.Next(1, nil), api.Result{Code: api.Empty}, steps(nothing, []step{reads(20, 4), reads(19, pair(2, 4))}, foundLast())...)
}

func TestParkWrittenOut(t *testing.T) {
	p := pair2(t, api.Deque)
	begins := []step{does(api.Or, 2, 1, pair(7, 0)), reads(0, 1), wins(0, 1, 3)}
	first, second := []step{reads(15, 4), reads(16, 4)}, []step{reads(19, 5), reads(20, 5)}
	queued := []step{reads(3, 1), reads(12, 0)}
	goesUp := []step{does(api.And, 2, math.MaxUint64-1, pair(7, 1))}
	leaves := steps([]step{reads(0, 3), wins(0, 3, 1)}, goesUp)
	wasChosen := steps([]step{reads(0, pair(1, 1))}, goesUp, []step{reads(0, pair(1, 1)), wins(0, pair(1, 1), 1)})
	for _, end := range [][]step{leaves, wasChosen} {
		// It waits, or was called ahead of that.
		goes(t, p.Park(1), api.Result{V: 1}, steps(begins, first, second, queued, []step{reads(2, pair(8, 1)), does(api.And, 2, math.MaxUint64-1, pair(8, 1))}, end)...)
		goes(t, p.Park(1), api.Result{V: 1}, steps(begins, first, second, queued,
			[]step{reads(2, pair(7, 1)), does(api.Wait, 2, pair(7, 1), pair(8, 1)), reads(2, pair(8, 1)), does(api.And, 2, math.MaxUint64-1, pair(8, 1))}, end)...)
		// It saw something, or that it can't tell.
		goes(t, p.Park(1), api.Result{}, steps(begins, []step{reads(15, 4), reads(16, 5)}, end)...)
		goes(t, p.Park(1), api.Result{}, steps(begins, first, []step{reads(19, 5), reads(20, 6)}, end)...)
		goes(t, p.Park(1), api.Result{}, steps(begins, first, second, []step{reads(3, 1), reads(12, 3)}, end)...)
		goes(t, p.Park(1), api.Result{}, steps(begins, first, second, []step{reads(3, 0)}, end)...)
	}
	// It isn't counted any more.
	goes(t, p.Park(1), api.Result{}, steps(begins, []step{reads(15, 4), reads(16, 5)}, []step{reads(0, 1)}, goesUp, []step{reads(0, 1)})...)
	// An epoch is one of 32 bits.
	for _, key := range some(0, 1, round/2, round-1) {
		goes(t, p.Park(1), api.Result{V: 1}, steps([]step{does(api.Or, 2, 1, pair(key, 0))}, begins[1:], first, second, queued,
			[]step{reads(2, pair(key, 1)), does(api.Wait, 2, pair(key, 1), pair(key, 0)), reads(2, pair((key+1)%round, 0)), does(api.And, 2, math.MaxUint64-1, pair(8, 1))}, leaves)...)
	}
}

// script is a call as the chapter's words tell it: into goes through a walk, and tells how that ended; note keeps what was met.
type script func(into func(w *walk.Walk) api.Result, note func(s string)) api.Result

func (p parts) wake(into func(w *walk.Walk) api.Result, note func(s string)) {
	if r := into(p.yard.Choose()); r.Code == api.Fine {
		into(p.spots[r.V].Call())
		note("woken")
		return
	}
	note("nobody woken")
}

func (p parts) submit(i int, v uint64) script {
	return func(into func(w *walk.Walk) api.Result, note func(s string)) api.Result {
		r := into(p.rows[i].Push(v))
		list := r.L
		note(fmt.Sprint("push ", r.Code, len(list) > 0))
		if r.Code == api.Full || r.Code == api.Busy {
			r = into(p.line.Put(append(slices.Clone(list), v)))
			note(fmt.Sprint("put ", r.Code, len(list) > 0))
			if r.Code == api.NoMem {
				r.Code = api.Full
			}
			if r.Code != api.Full {
				list = nil
			}
			for _, v := range list {
				if into(p.rows[i].Push(v)).Code != api.Fine {
					note("not back")
					return api.Result{Code: api.Broken}
				}
				note("back")
			}
		}
		if r.Code == api.Fine {
			p.wake(into, note)
		}
		return api.Result{Code: r.Code}
	}
}

// orderOf reckons by the chapter's words whom a worker goes to.
func orderOf(workers, i int, victims []int) []int {
	var l []int
	for n, k := range victims {
		if n < 64 && k >= 0 && k < workers && k != i {
			l = append(l, k)
		}
	}
	for k := range workers {
		if k != i {
			l = append(l, k)
		}
	}
	return l
}

func (p parts) next(i int, victims []int) script {
	return func(into func(w *walk.Walk) api.Result, note func(s string)) api.Result {
		for at, w := range []*walk.Walk{p.rows[i].Pop(), p.line.Take()} {
			r := into(w)
			note(fmt.Sprint("pop or take ", at, r.Code))
			if r.Code != api.Empty {
				return r
			}
		}
		searching := into(p.yard.Search(i)).Code == api.Fine
		end := api.Result{Code: api.Empty}
		for _, k := range orderOf(len(p.rows), i, victims) {
			r := api.Result{Code: api.Abort}
			for r.Code == api.Abort {
				r = into(p.rows[k].Steal(p.rows[i]))
				note(fmt.Sprint("steal ", r.Code))
			}
			if r.Code == api.Fine {
				end = r
				break
			}
		}
		if !searching {
			note(fmt.Sprint("not searching ", end.Code))
			return end
		}
		r := into(p.yard.Found(i))
		note(fmt.Sprint("found ", r.Code, r.V, end.Code))
		if r.V == 1 && end.Code == api.Fine {
			p.wake(into, note)
		}
		return end
	}
}

func (p parts) park(i int) script {
	return func(into func(w *walk.Walk) api.Result, note func(s string)) api.Result {
		key := uint32(into(p.spots[i].Prepare()).V)
		into(p.yard.Sleep(i))
		waits := true
		for k := 0; waits && k <= len(p.rows); k++ {
			w := local.Peek(p.line)
			if k < len(p.rows) {
				w = p.rows[k].Peek()
			}
			r := into(w)
			waits = r.Code == api.Fine && r.V == 0
			note(fmt.Sprint("peek ", k == len(p.rows), r.Code, r.V))
		}
		end := api.Result{}
		if waits {
			into(p.spots[i].Wait(key))
			end.V = 1
		}
		chosen := into(p.yard.Leave(i)).Code == api.Empty
		into(p.spots[i].GiveUp())
		note(fmt.Sprint("chosen ", chosen, waits))
		if chosen {
			note(fmt.Sprint("found ", into(p.yard.Found(i)).Code))
		}
		return end
	}
}

// follows gives a walk, and the script, the same answers, and looks that it wants, holds and tells just what that does. met is what was met.
func follows(t *testing.T, w *walk.Walk, s script, met map[string]bool, answer func(a api.Access) (uint64, bool)) {
	t.Helper()
	done := 0
	into := func(sub *walk.Walk) api.Result {
		for {
			a, wants := sub.Want()
			r, ended := sub.Result()
			if ended {
				return r
			}
			if got, ok := w.Want(); !wants || !ok || got != a {
				t.Fatalf("step %d: it wants %+v, %t, not %+v", done, got, ok, a)
			}
			if _, over := w.Result(); over || !slices.Equal(w.Held(), sub.Held()) {
				t.Fatalf("step %d: it has ended: %t, or holds %d, not %d", done, over, w.Held(), sub.Held())
			}
			v, won := answer(a)
			sub.Give(v, won)
			w.Give(v, won)
			if done++; done > 9000 {
				t.Fatal("it goes on and on")
			}
		}
	}
	end := s(into, func(s string) { met[s] = true })
	goes(t, w, end)
}

// looksLike draws what a cell might be, so that walks go all ways.
func looksLike(c api.Config, cell int, draw func(n int) int) uint64 {
	p := partsOf(c)
	number := func(n int) uint64 { return uint64(draw(n)) }
	switch {
	case cell == 0:
		return pair(number(3), number(1<<c.Workers))
	case cell <= c.Workers:
		return pair(number(3), number(2))
	case cell == p.line.At || cell == p.line.At+1:
		if draw(8) == 0 {
			return number(c.Nodes + 3)
		}
		return pair(number(2), 1+number(2))
	case cell < p.rows[0].At:
		if draw(2) == 0 {
			return 0
		}
		return number(c.Nodes + 1)
	}
	at := (cell - p.rows[0].At) % (c.Size + 2)
	switch {
	case at == 0 && c.Kind == api.Ring:
		lo := number(c.Size)
		return pair(number(2)*lo, lo)
	case at < 2:
		return number(c.Size + 1)
	}
	return 1000 + number(1000)
}

// drawnAnswers are such as cells that others change might tell.
func drawnAnswers(c api.Config, draw func(n int) int) func(a api.Access) (uint64, bool) {
	return func(a api.Access) (uint64, bool) {
		switch a.Kind {
		case api.Cas:
			if draw(3) > 0 {
				return a.A, true
			}
			return looksLike(c, a.Cell, draw), false
		case api.Wait:
			return looksLike(c, a.Cell, draw), draw(2) == 0
		}
		return looksLike(c, a.Cell, draw), draw(2) == 0
	}
}

// cellAnswers are those of a memory; between two steps others may change a cell.
func cellAnswers(t *testing.T, p *pool.Pool, draw func(n int) int, often int) func(a api.Access) (uint64, bool) {
	c := p.Plan().Config()
	m, _ := anyFilled(t, p, draw)
	return func(a api.Access) (uint64, bool) {
		if often > 0 && draw(often) == 0 {
			cell := draw(m.Len())
			m.Do(store(cell, looksLike(c, cell, draw)))
		}
		v, won, _ := m.Do(a)
		if a.Kind == api.Wait && !won {
			m.Do(api.Access{Kind: api.Add, Cell: a.Cell, A: round})
		}
		return v, won
	}
}

func anyVictims(workers int, draw func(n int) int) []int {
	l := make([]int, draw(2)*draw(5)+draw(30)/29*70)
	for n := range l {
		l[n] = draw(workers+2) - 1
	}
	return l
}

// All that the walks can meet, in drawn answers.
func TestWalksByTheChapter(t *testing.T) {
	met := map[int]map[string]bool{0: {}, 1: {}}
	for seed, c := range few() {
		p, want, draw := poolOf(t, c), partsOf(c), drawn(uint64(seed))
		for n := range 4000 {
			answer := drawnAnswers(c, draw)
			if n%4 == 0 {
				answer = cellAnswers(t, p, draw, n%3*5)
			}
			i, v, victims := draw(c.Workers), uint64(draw(100)), anyVictims(c.Workers, draw)
			switch draw(3) {
			case 0:
				follows(t, p.Submit(i, v), want.submit(i, v), met[c.Kind], answer)
			case 1:
				follows(t, p.Next(i, victims), want.next(i, victims), met[c.Kind], answer)
			case 2:
				follows(t, p.Park(i), want.park(i), met[c.Kind], answer)
			}
		}
	}
	both := []string{"chosen false false", "chosen false true", "chosen true false", "chosen true true", "found 0", "found 0 0 0", "found 0 0 5", "found 0 1 0", "found 0 1 5", "found 15", "found 15 0 0", "found 15 0 5",
		"nobody woken", "not searching 0", "not searching 5", "peek false 0 0", "peek false 0 1", "peek true 0 0", "peek true 0 1", "peek true 9 0",
		"pop or take 0 0", "pop or take 0 5", "pop or take 1 0", "pop or take 1 5", "pop or take 1 9",
		"push 0 false", "push 4 false", "put 0 false", "put 7 false", "put 9 false", "steal 0", "steal 5", "woken"}
	isMet(t, met[0], append(both, "steal 6"))
	rings := append(both, "push 4 true", "push 8 false", "put 0 true", "put 7 true", "put 9 true", "steal 4", "steal 8", "back", "not back")
	isMet(t, met[1], slices.DeleteFunc(rings, func(s string) bool { return s == "push 4 false" }))
}

func isMet(t *testing.T, met map[string]bool, want []string) {
	t.Helper()
	var l []string
	for s := range met {
		l = append(l, s)
	}
	slices.Sort(l)
	slices.Sort(want)
	if !slices.Equal(l, want) {
		t.Errorf("met were %q, not %q", l, want)
	}
}

// A call is the walk of its kind.
func TestCallsByTheChapter(t *testing.T) {
	for seed, c := range few() {
		p, want, draw := poolOf(t, c), partsOf(c), drawn(uint64(100+seed))
		for n := range 300 {
			i, v, victims := draw(c.Workers), uint64(draw(100)), anyVictims(c.Workers, draw)
			for kind, s := range map[int]script{1: want.submit(i, v), 2: want.next(i, victims), 3: want.park(i)} {
				follows(t, p.Call(i, api.Call{Kind: kind, Task: v, Victims: victims}), s, map[string]bool{}, drawnAnswers(c, drawn(uint64(n))))
			}
		}
	}
}

// Tasks of all values are laid in, and told, as they are.
func TestTasksOfAllValues(t *testing.T) {
	for _, c := range few() {
		p := poolOf(t, c)
		for _, v := range some(0, 1, 2, round-1, round, math.MaxInt64, math.MaxInt64+1, math.MaxUint64-1, math.MaxUint64) {
			m := memoryOf(t, p)
			for _, w := range []*walk.Walk{p.Submit(0, v), p.Call(0, api.Call{Kind: 1, Task: v})} {
				if r := alone(t, m, w); r.Code != api.Fine || r.V != 0 {
					t.Fatal(r)
				}
				isAll(t, p, m, v)
				if r := alone(t, m, p.Next(c.Workers-1, nil)); r.Code != api.Fine || r.V != v {
					t.Fatal(r)
				}
				isAll(t, p, m)
			}
		}
	}
}

// visits tells at whose rows a Next looks, if none has a task.
func visits(t *testing.T, c api.Config, w *walk.Walk) []int {
	t.Helper()
	p := partsOf(c)
	m := memoryOf(t, poolOf(t, c))
	var l []int
	searched := false
	for range 9000 {
		a, ok := w.Want()
		if !ok {
			return l
		}
		searched = searched || a.Cell == 0
		for k, r := range p.rows {
			// A thief's first look at a deque is at its top.
			if searched && a == load(r.At) {
				l = append(l, k)
			}
		}
		v, won, _ := m.Do(a)
		w.Give(v, won)
	}
	t.Fatal("it goes on and on")
	return nil
}

// The first 64 of the victims count, whatever they are; and then all.
func TestOrder(t *testing.T) {
	ten := []int{0, 1, 2, 3, 4, 5, 6, 7, 8, 9}
	without := func(i int) []int { return slices.Concat(ten[:i], ten[i+1:]) }
	sixtyThree := slices.Repeat([]int{10}, 63)
	c := api.Config{Workers: 10, Kind: api.Deque, Size: 2, Nodes: 2}
	for _, x := range []struct {
		i       int
		victims []int
		want    []int
	}{
		{3, nil, without(3)},
		{0, []int{}, without(0)},
		{9, []int{}, without(9)},
		{3, []int{5}, append([]int{5}, without(3)...)},
		{3, []int{9, 0, 5}, append([]int{9, 0, 5}, without(3)...)},
		{3, []int{5, 5, 2, 5}, append([]int{5, 5, 2, 5}, without(3)...)},
		{3, []int{3, 3}, without(3)},
		{3, []int{3, 4, 3}, append([]int{4}, without(3)...)},
		{3, []int{10, -1, 6, 11, 16}, append([]int{6}, without(3)...)},
		{0, none(), without(0)},
		{0, append(none(), 1), append([]int{1}, without(0)...)},
		{5, append(slices.Clone(sixtyThree), 7, 8), append([]int{7}, without(5)...)},
		{5, append(slices.Clone(sixtyThree), 5, 7, 8), without(5)},
		{5, slices.Repeat([]int{4}, 63), append(slices.Repeat([]int{4}, 63), without(5)...)},
		{5, slices.Repeat([]int{4}, 64), append(slices.Repeat([]int{4}, 64), without(5)...)},
		{5, slices.Repeat([]int{4}, 65), append(slices.Repeat([]int{4}, 64), without(5)...)},
		{5, slices.Repeat([]int{4}, 5000), append(slices.Repeat([]int{4}, 64), without(5)...)},
	} {
		was := slices.Clone(x.victims)
		w, same := poolOf(t, c).Next(x.i, x.victims), poolOf(t, c).Call(x.i, api.Call{Kind: 2, Victims: x.victims})
		// R4: what was handed in may be used for something else by now.
		if !slices.Equal(x.victims, was) {
			t.Fatalf("%d were changed to %d", was, x.victims)
		}
		for n := range x.victims {
			x.victims[n] = 8
		}
		for _, w := range []*walk.Walk{w, same} {
			if l := visits(t, c, w); !slices.Equal(l, x.want) {
				t.Errorf("%d by %d: it goes to %d, not to %d", was, x.i, l, x.want)
			}
		}
		if slices.ContainsFunc(x.victims, func(k int) bool { return k != 8 }) {
			t.Fatalf("a walk has changed %d", x.victims)
		}
	}
}

// R4: room behind a list that is handed in is the caller's.
func TestVictimsWithRoomBehind(t *testing.T) {
	c := api.Config{Workers: 4, Kind: api.Deque, Size: 2, Nodes: 2}
	l := []int{3, 0, 2, 77, 78, 79, 80, 81}
	if v := visits(t, c, poolOf(t, c).Next(0, l[:3])); !slices.Equal(v, []int{3, 2, 1, 2, 3}) {
		t.Error(v)
	}
	if !slices.Equal(l, []int{3, 0, 2, 77, 78, 79, 80, 81}) {
		t.Errorf("%d", l)
	}
}

// One who is alone has nobody to steal from.
func TestOneWorker(t *testing.T) {
	for _, kind := range []int{api.Deque, api.Ring} {
		c := api.Config{Workers: 1, Kind: kind, Size: 4, Nodes: 2}
		if l := visits(t, c, poolOf(t, c).Next(0, []int{0, 1})); len(l) != 0 {
			t.Errorf("it goes to %d", l)
		}
	}
}

// It tries again as often as others are faster, and then goes on.
func TestManyAborts(t *testing.T) {
	p := pair2(t, api.Deque)
	w := p.Next(0, nil)
	goesOn(t, w, steps(popsNothing(15), takesNothing(), searches())...)
	for range 20000 {
		goesOn(t, w, loses(19)...)
	}
	goes(t, w, api.Result{V: 70}, steps(steals(19, 70), foundNotLast())...)
}

// 4: one that is broken has ended with that code.
func TestBroken(t *testing.T) {
	for seed, c := range few() {
		p, draw := poolOf(t, c), drawn(uint64(seed))
		for n := range 200 {
			for kind := 1; kind <= 3; kind++ {
				w := p.Call(0, api.Call{Kind: kind, Task: 9})
				answer := drawnAnswers(c, draw)
				for range n % 40 {
					if a, ok := w.Want(); ok {
						w.Give(answer(a))
					}
				}
				if _, ended := w.Result(); ended {
					continue
				}
				w.Break(api.Lost)
				for range 2 {
					if r, ok := w.Result(); !ok || r.Code != api.Lost || r.V != 0 || len(r.L) != 0 {
						t.Fatal(r, ok)
					}
					if a, ok := w.Want(); ok {
						t.Fatalf("it is broken, and wants %+v", a)
					}
					w.Give(1, true)
				}
			}
		}
	}
}

// A walk goes into them, and wants, holds and ends as they do.
func TestGoneInto(t *testing.T) {
	p := pair2(t, api.Deque)
	w := walk.New(func(w *walk.Walk) {
		w.Hold(some(5))
		w.Into(p.Submit(0, 70), func(x api.Result) {
			w.Hold(nil)
			w.Into(p.Submit(1, 71), func(y api.Result) { w.End(api.Result{V: 10*uint64(x.Code) + uint64(y.Code)}) })
		})
	})
	l := steps(pushes(15, 70), wakesNobody(0))
	for i := range l {
		l[i].held = append(some(5), l[i].held...)
	}
	goes(t, w, api.Result{V: 4}, steps(l, isFull(19, 71), []step{{load(5), 0, true, some(71)}})...)
}
