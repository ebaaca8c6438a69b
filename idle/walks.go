package idle

import (
	"coachyard/api"
	"coachyard/walk"
	"coachyard/word"
)

// turn is a walk that turns the cell from what it was to another word, and makes that anew as long as others are faster.
type turn struct {
	*walk.Walk
	Yard
	worker int
	was    uint64
	look   func() // what is done with each word that is told
	v      uint64 // what is told, if it wins
}

// Sleep makes the worker i idle.
func (y Yard) Sleep(i int) *walk.Walk {
	return y.begun(i, func(t *turn) { t.look = t.sleep })
}

// Leave makes the worker i one that isn't idle any more.
func (y Yard) Leave(i int) *walk.Walk {
	return y.begun(i, func(t *turn) { t.look = t.leave })
}

// Search makes one more searching, unless half of the workers are.
func (y Yard) Search(i int) *walk.Walk {
	return y.begun(i, func(t *turn) { t.look = t.search })
}

// Found makes one less searching, and tells whether that was the last one.
func (y Yard) Found(i int) *walk.Walk {
	return y.begun(i, func(t *turn) { t.look = t.found })
}

// Choose tells the lowest worker that is idle, and makes that one searching instead.
func (y Yard) Choose() *walk.Walk {
	// It asks for no worker of its own, and each yard has the worker 0.
	return y.begun(0, func(t *turn) { t.look = t.choose })
}

// begun makes a walk of the worker i, or one that is refused. set tells it what is done with each word.
func (y Yard) begun(i int, set func(t *turn)) *walk.Walk {
	return walk.New(func(w *walk.Walk) {
		if !y.Right() || !y.has(i) {
			w.Break(api.Arg)
			return
		}
		t := &turn{Walk: w, Yard: y, worker: i}
		set(t)
		t.Ask(api.Access{Kind: api.Load, Cell: t.At}, t.read)
	})
}

func (t *turn) read(v uint64, _ bool) {
	t.was = v
	t.look()
}

// to turns the cell to u, and tells v then. Who loses that goes on from what the cell is now.
func (t *turn) to(u, v uint64) {
	t.v = v
	t.Ask(api.Access{Kind: api.Cas, Cell: t.At, A: t.was, B: u}, t.tried)
}

func (t *turn) tried(v uint64, won bool) {
	if !won {
		t.read(v, won)
		return
	}
	t.End(api.Result{V: t.v})
}

func (t *turn) sleep() {
	t.to(t.was|bit(t.worker), 0)
}

func (t *turn) leave() {
	if t.was&bit(t.worker) == 0 {
		t.Break(api.Empty)
		return
	}
	t.to(t.was&^bit(t.worker), 0)
}

func (t *turn) search() {
	n := searching(t.was)
	// Half is rounded up, so that n, which can be any number, isn't multiplied.
	if half := uint32(t.Workers+1) / 2; n >= half {
		t.Break(api.Busy)
		return
	}
	t.to(recounted(t.was, n+1), 0)
}

func (t *turn) found() {
	n := searching(t.was)
	if n == 0 {
		t.Break(api.Lost)
		return
	}
	last := uint64(0)
	if n == 1 {
		last = 1
	}
	t.to(recounted(t.was, n-1), last)
}

func (t *turn) choose() {
	worker, found := word.First(t.idle(t.was))
	if searching(t.was) > 0 || !found {
		t.Break(api.Empty)
		return
	}
	t.to(recounted(t.was&^bit(worker), 1), uint64(worker))
}

func bit(worker int) uint64 {
	return 1 << worker
}

// recounted tells u with so many who are searching.
func recounted(u uint64, n uint32) uint64 {
	_, lo := word.Split(u)
	return word.Pair(n, lo)
}
