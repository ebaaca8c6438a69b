package park

import (
	"coachyard/api"
	"coachyard/walk"
	"coachyard/word"
)

// worth tells what an answer is worth to a walk that ends with it: its V, of the epoch that was, and of the bits beside it.
type worth func(epoch, marks uint32) uint64

// visit is a walk at a parker's cell.
type visit struct {
	*walk.Walk
	Spot
}

// waiting is a visit that lasts till the epoch isn't key any more.
type waiting struct {
	visit
	key    uint32
	waited uint64 // 1, if it came to a Wait
}

// Prepare makes the worker one that means to wait, and tells the epoch: the key of its Wait.
func (s Spot) Prepare() *walk.Walk {
	return s.begun(func(v visit) {
		v.last(api.Or, means, func(epoch, _ uint32) uint64 { return uint64(epoch) })
	})
}

// GiveUp makes the worker one that doesn't mean to wait any more, and tells the epoch.
func (s Spot) GiveUp() *walk.Walk {
	return s.begun(func(v visit) {
		v.unmark(func(epoch, _ uint32) uint64 { return uint64(epoch) })
	})
}

// Wait lasts till the epoch is another one than key, and tells whether it had to wait for that.
func (s Spot) Wait(key uint32) *walk.Walk {
	return s.begun(func(v visit) {
		w := &waiting{visit: v, key: key}
		w.load()
	})
}

// Call begins another epoch, and tells whether the worker meant to wait.
func (s Spot) Call() *walk.Walk {
	return s.begun(func(v visit) {
		v.last(api.Add, word.Pair(1, 0), func(_, marks uint32) uint64 { return uint64(marks & means) })
	})
}

// begun makes a walk that begins so, or one that is refused.
func (s Spot) begun(begin func(v visit)) *walk.Walk {
	return walk.New(func(w *walk.Walk) {
		if !s.right() {
			w.Break(api.Arg)
			return
		}
		begin(visit{Walk: w, Spot: s})
	})
}

// unmark is the last step of who doesn't mean to wait any more.
func (v visit) unmark(f worth) {
	v.last(api.And, ^uint64(means), f)
}

// last asks for the access by which it ends, with what the answer is worth then.
func (v visit) last(kind int, a uint64, f worth) {
	v.Ask(api.Access{Kind: kind, Cell: v.At, A: a}, func(was uint64, _ bool) {
		v.End(api.Result{V: f(word.Split(was))})
	})
}

func (w *waiting) load() {
	w.Ask(api.Access{Kind: api.Load, Cell: w.At}, w.read)
}

func (w *waiting) read(is uint64, _ bool) {
	if epoch, _ := word.Split(is); epoch != w.key {
		w.unmark(func(uint32, uint32) uint64 { return w.waited })
		return
	}
	w.waited = 1
	w.Ask(api.Access{Kind: api.Wait, Cell: w.At, A: is}, w.changed)
}

// changed looks anew: another word is of the same epoch still, if only the bits beside that are others.
func (w *waiting) changed(uint64, bool) {
	w.load()
}
