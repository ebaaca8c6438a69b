package park_test

import (
	"testing"

	"coachyard/api"
	"coachyard/loom"
	"coachyard/park"
	"coachyard/walk"
)

// P11.1

// step is an access that a walk must want, and what is given to it.
type step struct {
	want api.Access
	v    uint64
	won  bool
}

func load(cell int, v uint64) step {
	return step{api.Access{Kind: api.Load, Cell: cell}, v, true}
}

func or(cell int, v uint64) step {
	return step{api.Access{Kind: api.Or, Cell: cell, A: 1}, v, true}
}

func and(cell int, v uint64) step {
	return step{api.Access{Kind: api.And, Cell: cell, A: 18446744073709551614}, v, true}
}

func add(cell int, v uint64) step {
	return step{api.Access{Kind: api.Add, Cell: cell, A: 4294967296}, v, true}
}

// wait is a Wait for another word than from.
func wait(cell int, from, v uint64) step {
	return step{api.Access{Kind: api.Wait, Cell: cell, A: from}, v, true}
}

// goes gives w what the steps tell, and looks that it wants just these, and ends behind them, not ahead, with v.
func goes(t *testing.T, w *walk.Walk, v uint64, steps ...step) {
	t.Helper()
	goesOn(t, w, steps...)
	isEnded(t, w, api.Result{V: v})
	// What is given then changes nothing.
	w.Give(pair(1, 1), true)
	w.Give(0, false)
	isEnded(t, w, api.Result{V: v})
}

func goesOn(t *testing.T, w *walk.Walk, steps ...step) {
	t.Helper()
	for i, s := range steps {
		if a, ok := w.Want(); !ok || a != s.want {
			t.Fatalf("step %d: it wants %+v, %t, not %+v", i, a, ok, s.want)
		}
		if r, ok := w.Result(); ok || r.Code != 0 || r.V != 0 || len(r.L) != 0 {
			t.Fatalf("step %d: it has ended with %+v", i, r)
		}
		holdsNothing(t, w)
		w.Give(s.v, s.won)
	}
}

func isEnded(t *testing.T, w *walk.Walk, end api.Result) {
	t.Helper()
	if r, ok := w.Result(); !ok || r.Code != end.Code || r.V != end.V || len(r.L) != 0 {
		t.Fatalf("it ended with %+v, %t, not with %+v", r, ok, end)
	}
	if a, ok := w.Want(); ok || a != (api.Access{}) {
		t.Fatalf("it has ended, and wants %+v", a)
	}
	holdsNothing(t, w)
}

func holdsNothing(t *testing.T, w *walk.Walk) {
	t.Helper()
	if l := w.Held(); len(l) != 0 {
		t.Fatalf("it holds %v", l)
	}
}

// Each one by hand, as the chapter's words tell it.
func TestStepByStep(t *testing.T) {
	s := park.Spot{At: 7}
	goes(t, s.Prepare(), 0, or(7, 0))
	goes(t, s.Prepare(), 0, or(7, 1))
	goes(t, s.Prepare(), 5, or(7, 5<<32))
	goes(t, s.Prepare(), 5, or(7, 5<<32+1))
	goes(t, s.Prepare(), top, or(7, all))
	goes(t, s.GiveUp(), 0, and(7, 0))
	goes(t, s.GiveUp(), 0, and(7, 1))
	goes(t, s.GiveUp(), 5, and(7, 5<<32+1))
	goes(t, s.GiveUp(), top, and(7, all-1))
	goes(t, s.Call(), 0, add(7, 0))
	goes(t, s.Call(), 1, add(7, 1))
	goes(t, s.Call(), 0, add(7, 2))
	goes(t, s.Call(), 1, add(7, 5<<32+3))
	goes(t, s.Call(), 0, add(7, 5<<32))
	goes(t, s.Call(), 0, add(7, all-1))
	goes(t, s.Call(), 1, add(7, all))
	goes(t, s.Wait(0), 0, load(7, 1<<32), and(7, 1<<32))
	goes(t, s.Wait(1), 0, load(7, 1), and(7, 1))
	goes(t, s.Wait(5), 0, load(7, 6<<32+1), and(7, 6<<32+1))
	goes(t, s.Wait(5), 1, load(7, 5<<32+1), wait(7, 5<<32+1, 6<<32+1), load(7, 6<<32+1), and(7, 6<<32+1))
	goes(t, s.Wait(0), 1, load(7, 1), wait(7, 1, 0), load(7, 0), wait(7, 0, 3), load(7, 3), wait(7, 3, 7<<32), load(7, 7<<32), and(7, 9<<32))
	goes(t, s.Wait(top), 1, load(7, all), wait(7, all, top), load(7, top), and(7, top))
}

func TestOfAllWords(t *testing.T) {
	for i, hi := range epochs() {
		s := park.Spot{At: []int{0, 3, 65535}[i%3]}
		for _, lo := range marks() {
			u := pair(hi, lo)
			goes(t, s.Prepare(), uint64(hi), or(s.At, u))
			goes(t, s.GiveUp(), uint64(hi), and(s.At, u))
			goes(t, s.Call(), uint64(lo%2), add(s.At, u))
			for _, key := range append(epochs(), hi-1, hi, hi+1, hi^1<<31, hi^1<<16, lo, lo|1) {
				if key != hi {
					goes(t, s.Wait(key), 0, load(s.At, u), and(s.At, u))
					continue
				}
				goes(t, s.Wait(key), 1, load(s.At, u), wait(s.At, u, 0), load(s.At, u+1<<32), and(s.At, u))
				goes(t, s.Wait(key), 1, load(s.At, u), wait(s.At, u, 0), load(s.At, u-1<<32), and(s.At, u))
			}
		}
	}
}

// It waits on as long as the epoch is key, and each time for another word than the last one that it has loaded.
func TestWaitsOn(t *testing.T) {
	s := park.Spot{At: 2}
	for _, key := range epochs() {
		for _, last := range []uint32{key + 1, key - 1, key ^ 1<<31} {
			for n := range 40 {
				var steps []step
				for i := range n {
					u := pair(key, marks()[i])
					steps = append(steps, load(2, u), wait(2, u, pair(last, uint32(i))))
				}
				steps = append(steps, load(2, pair(last, 1)), and(2, pair(last, 1)))
				goes(t, s.Wait(key), uint64(min(n, 1)), steps...)
			}
		}
	}
}

// What the Wait told is no matter: another one may have been faster again, ahead of the Load. Nor is what the And told: who has seen another epoch doesn't wait.
func TestWaitLooksAnew(t *testing.T) {
	s := park.Spot{At: 2}
	for _, u := range []uint64{0, 1, pair(4, 0), pair(5, 0), pair(5, 1), pair(6, 1), all} {
		goes(t, s.Wait(5), 0, load(2, pair(6, 1)), and(2, u))
		goes(t, s.Wait(5), 1, load(2, pair(5, 1)), wait(2, pair(5, 1), u), load(2, pair(6, 1)), and(2, u))
		goes(t, s.Wait(5), 1, load(2, pair(5, 1)), wait(2, pair(5, 1), u), load(2, pair(5, 1)), wait(2, pair(5, 1), u), load(2, pair(4, 1)), and(2, u))
	}
}

// Whether a step won is no matter, also where it is a Wait: Load is done again, and tells whether it was worth it.
func TestStrangeAnswers(t *testing.T) {
	s := park.Spot{At: 1}
	lost := func(steps ...step) []step {
		for i := range steps {
			steps[i].won = false
		}
		return steps
	}
	goes(t, s.Prepare(), 9, lost(or(1, pair(9, 1)))...)
	goes(t, s.GiveUp(), 9, lost(and(1, pair(9, 1)))...)
	goes(t, s.Call(), 1, lost(add(1, pair(9, 1)))...)
	goes(t, s.Wait(8), 0, lost(load(1, pair(9, 1)), and(1, pair(9, 1)))...)
	goes(t, s.Wait(9), 1, lost(load(1, pair(9, 1)), wait(1, pair(9, 1), pair(9, 1)), load(1, pair(9, 1)), wait(1, pair(9, 1), 0), load(1, 0), and(1, 0))...)
}

// deeds are all walks of a parker.
func deeds(s park.Spot, key uint32) []*walk.Walk {
	return []*walk.Walk{s.Prepare(), s.GiveUp(), s.Wait(key), s.Call()}
}

func TestWalksOfWrongSpots(t *testing.T) {
	for _, s := range wrong() {
		for _, key := range epochs() {
			for _, w := range deeds(s, key) {
				isEnded(t, w, api.Result{Code: api.Arg})
				w.Give(1, true)
				isEnded(t, w, api.Result{Code: api.Arg})
			}
		}
	}
}

// All cells that can be are right ones.
func TestWalksOfAllSpots(t *testing.T) {
	for at := range 65536 {
		s := park.Spot{At: at}
		goes(t, s.Prepare(), 3, or(at, pair(3, 0)))
		goes(t, s.GiveUp(), 3, and(at, pair(3, 0)))
		goes(t, s.Call(), 1, add(at, pair(3, 1)))
		goes(t, s.Wait(3), 1, load(at, pair(3, 0)), wait(at, pair(3, 0), 0), load(at, pair(4, 0)), and(at, 0))
	}
}

// What a memory is behind each of them: the bits beside stay, and all other cells.
func TestOnAMemory(t *testing.T) {
	s := park.Spot{At: 1}
	for _, beside := range []uint64{0, 5, all} {
		for _, hi := range epochs() {
			for _, lo := range marks() {
				was := stateOf(pair(hi, lo))
				on := func(w *walk.Walk, steps int, v uint64, is state) {
					t.Helper()
					m := memory(t, beside, pair(hi, lo), beside)
					l, _ := loom.New(m, 1)
					alone(t, l, 0, w, steps, api.Result{V: v})
					isCells(t, m, beside, is.cell(), beside)
					looks(t, s, m, uint32(is.epoch), is.means)
				}
				on(s.Prepare(), 1, uint64(hi), was.meaning(true))
				on(s.GiveUp(), 1, uint64(hi), was.meaning(false))
				on(s.Call(), 1, uint64(lo%2), was.called())
				on(s.Wait(hi+1), 2, 0, was.meaning(false))
				on(s.Wait(hi-1), 2, 0, was.meaning(false))
			}
		}
	}
}

func alone(t *testing.T, l *loom.Loom, who int, w *walk.Walk, steps int, want api.Result) {
	t.Helper()
	told(t, l.Start(who, w), api.Fine)
	if n, e := l.Alone(who, 10); n != steps || e != api.Fine {
		t.Fatalf("%d steps, %d", n, e)
	}
	isEnded(t, w, want)
}

// Of a cell that isn't there the first step breaks it.
func TestOnNoCell(t *testing.T) {
	m := memory(t, 1, 1)
	for _, at := range []int{2, 3, 65535} {
		for _, w := range deeds(park.Spot{At: at}, 0) {
			l, _ := loom.New(m, 1)
			told(t, l.Start(0, w), api.Fine)
			told(t, l.Pick(0), api.Broken)
			isEnded(t, w, api.Result{Code: api.Broken})
		}
	}
	isCells(t, m, 1, 1)
}

// R1: answers without end; a walk goes on, and each giving ends.
func TestAnswersWithoutEnd(t *testing.T) {
	w := park.Spot{At: 4}.Wait(6)
	for i := range 60000 {
		w.Give(pair(6, uint32(i)), i%3 == 0)
	}
	goes(t, w, 1, load(4, pair(6, 9)), wait(4, pair(6, 9), 0), load(4, 0), and(4, 0))
}

// 4: one that is broken has ended with that code.
func TestBroken(t *testing.T) {
	for steps := range 6 {
		for i, w := range deeds(park.Spot{At: 0}, 3) {
			if i != 2 && steps > 0 {
				continue
			}
			for range steps {
				w.Give(pair(3, 1), true)
			}
			w.Break(api.Abort)
			isEnded(t, w, api.Result{Code: api.Abort})
		}
	}
}

// R6: what is kept is kept by each walk for itself.
func TestWalksSideBySide(t *testing.T) {
	s, z := park.Spot{At: 1}, park.Spot{At: 9}
	a, b, c, d := s.Wait(1), z.Wait(2), s.Wait(2), z.Wait(1)
	for _, w := range []*walk.Walk{a, b, c, d} {
		w.Give(pair(1, 1), true)
	}
	e, f, g, h := s.Prepare(), z.GiveUp(), z.Call(), z.Prepare()
	goes(t, g, 1, add(9, pair(4, 1)))
	goes(t, d, 1, wait(9, pair(1, 1), 0), load(9, pair(2, 0)), and(9, 0))
	goes(t, b, 0, and(9, 0))
	goes(t, h, 4, or(9, pair(4, 1)))
	goes(t, f, 5, and(9, pair(5, 1)))
	goes(t, a, 1, wait(1, pair(1, 1), 0), load(1, 0), and(1, 0))
	goes(t, e, 7, or(1, pair(7, 1)))
	goes(t, c, 0, and(1, 0))
}

// A walk goes into them, and wants and ends as they do.
func TestGoneInto(t *testing.T) {
	s := park.Spot{At: 5}
	w := walk.New(func(w *walk.Walk) {
		w.Into(s.Prepare(), func(p api.Result) {
			w.Into(s.Wait(uint32(p.V)), func(r api.Result) {
				w.Into(s.GiveUp(), func(g api.Result) { w.End(api.Result{V: 100*p.V + 10*g.V + r.V}) })
			})
		})
	})
	goes(t, w, 371, or(5, pair(3, 0)), load(5, pair(3, 1)), wait(5, pair(3, 1), pair(4, 1)), load(5, pair(5, 1)), and(5, pair(6, 1)), and(5, pair(7, 0)))
}
