package ring

import (
	"coachyard/api"
	"coachyard/walk"
	"coachyard/word"
)

// steps is a walk along a ring: it turns the head to take tasks, and looks anew as long as others are faster.
type steps struct {
	*walk.Walk
	Row
	head          uint64
	stolen, first uint32 // the head's parts: where those begin that are being stolen, and where the others
	tail          uint32
	look          func() // what is done with each head and tail that are told
	turned        func() // what is done when it has turned the head
	taken         []uint64
}

// pushing is the owner's walk that lays its task in at the tail, or takes half of a full ring.
type pushing struct {
	steps
	task uint64
}

// popping is the owner's walk that takes the first task.
type popping struct {
	steps
}

// stealing is the walk of another one, that takes half into its own ring, but for the last one of these.
type stealing struct {
	steps
	target Row
	end    uint32 // the target's tail
	count  int    // how many it takes
}

// Push lays v in.
func (r Row) Push(v uint64) *walk.Walk {
	return r.along(r.Right(), func(s steps) {
		p := &pushing{steps: s, task: v}
		p.look, p.turned = p.lay, p.loadNext
		p.holdTillEnd(p.task)
		p.begin()
	})
}

// Pop takes the first task.
func (r Row) Pop() *walk.Walk {
	return r.along(r.Right(), func(s steps) {
		p := &popping{steps: s}
		p.look, p.turned = p.claim, p.loadFirst
		p.begin()
	})
}

// Steal takes half of the tasks: the last one is told, all others come into the target.
func (r Row) Steal(target Row) *walk.Walk {
	return r.along(r.feeds(target), func(s steps) {
		t := &stealing{steps: s, target: target}
		t.look, t.turned = t.claim, t.loadNext
		t.holdTillEnd()
		t.load(t.target.tailCell(), t.readEnd)
	})
}

// along makes a walk along the ring, or one that is refused.
func (r Row) along(fits bool, begin func(s steps)) *walk.Walk {
	return walk.New(func(w *walk.Walk) {
		if !fits {
			w.Break(api.Arg)
			return
		}
		begin(steps{Walk: w, Row: r})
	})
}

func (s *steps) load(cell int, next func(v uint64, won bool)) {
	s.Ask(api.Access{Kind: api.Load, Cell: cell}, next)
}

func (s *steps) store(cell int, v uint64, next func(v uint64, won bool)) {
	s.Ask(api.Access{Kind: api.Store, Cell: cell, A: v}, next)
}

func (s *steps) begin() {
	s.load(s.At, s.readHead)
}

func (s *steps) readHead(v uint64, _ bool) {
	s.head = v
	s.stolen, s.first = word.Split(v)
	s.load(s.tailCell(), s.readTail)
}

func (s *steps) readTail(v uint64, _ bool) {
	_, s.tail = word.Split(v)
	s.look()
}

// turn makes the head such a one: of all who saw the same head, one alone wins that.
func (s *steps) turn(stolen, first uint32) {
	s.Ask(api.Access{Kind: api.Cas, Cell: s.At, A: s.head, B: word.Pair(stolen, first)}, s.tried)
}

func (s *steps) tried(v uint64, won bool) {
	if !won {
		s.readHead(v, won)
		return
	}
	s.turned()
}

// behind tells the number behind those that it took.
func (s *steps) behind() uint32 {
	return s.first + uint32(len(s.taken))
}

// take makes it hold what it loaded, too; ahead of all that stand the others.
func (s *steps) take(v uint64, others ...uint64) {
	s.taken = append(s.taken, v)
	s.Hold(append(others, s.taken...))
}

// holdTillEnd makes it hold these tasks. As others may break it, a walk that went into it lets go of all that it holds.
func (s *steps) holdTillEnd(tasks ...uint64) {
	s.Hold(tasks)
	walk.New(func(w *walk.Walk) {
		w.Into(s.Walk, func(api.Result) { s.Hold(nil) })
	})
}

func (p *pushing) lay() {
	// What is being stolen takes room still, as it isn't loaded yet.
	if word.Ahead(p.tail, p.stolen) < p.Size {
		p.store(p.slot(p.tail), p.task, p.laid)
		return
	}
	if p.stolen != p.first {
		p.Break(api.Busy)
		return
	}
	first := p.first + uint32(p.half())
	p.turn(first, first)
}

func (p *pushing) laid(uint64, bool) {
	p.store(p.tailCell(), uint64(p.tail+1), p.finish)
}

func (p *pushing) finish(uint64, bool) {
	p.End(api.Result{})
}

func (p *pushing) loadNext() {
	p.load(p.slot(p.behind()), p.loaded)
}

func (p *pushing) loaded(v uint64, _ bool) {
	p.take(v, p.task)
	if len(p.taken) < p.half() {
		p.loadNext()
		return
	}
	p.End(api.Result{Code: api.Full, L: p.taken})
}

func (p *popping) claim() {
	if word.Ahead(p.tail, p.first) < 1 {
		p.Break(api.Empty)
		return
	}
	stolen := p.stolen
	if stolen == p.first {
		stolen++
	}
	p.turn(stolen, p.first+1)
}

func (p *popping) loadFirst() {
	p.load(p.slot(p.first), p.finish)
}

func (p *popping) finish(v uint64, _ bool) {
	p.End(api.Result{V: v})
}

func (t *stealing) readEnd(v uint64, _ bool) {
	_, t.end = word.Split(v)
	t.load(t.target.At, t.readRoom)
}

func (t *stealing) readRoom(v uint64, _ bool) {
	// What others steal from the target takes room there still.
	stolen, _ := word.Split(v)
	if word.Ahead(t.end, stolen) > t.half() {
		t.Break(api.Full)
		return
	}
	t.begin()
}

func (t *stealing) claim() {
	n := word.Ahead(t.tail, t.first)
	if t.stolen != t.first {
		t.Break(api.Busy)
		return
	}
	// The tail is newer than the head: so many can't be there at once.
	if n > t.Size {
		t.begin()
		return
	}
	t.count = n - n/2
	if t.count < 1 {
		t.Break(api.Empty)
		return
	}
	t.turn(t.stolen, t.first+uint32(t.count))
}

func (t *stealing) loadNext() {
	t.load(t.slot(t.behind()), t.loaded)
}

func (t *stealing) loaded(v uint64, _ bool) {
	to := t.target.slot(t.end + uint32(len(t.taken)))
	t.take(v)
	if len(t.taken) < t.count {
		t.store(to, v, t.laid)
		return
	}
	t.load(t.At, t.release)
}

func (t *stealing) laid(uint64, bool) {
	t.loadNext()
}

// release gives the slots free, whatever the owner popped meanwhile.
func (t *stealing) release(v uint64, _ bool) {
	_, first := word.Split(v)
	t.Ask(api.Access{Kind: api.Cas, Cell: t.At, A: v, B: word.Pair(first, first)}, t.released)
}

func (t *stealing) released(v uint64, won bool) {
	if !won {
		t.release(v, won)
		return
	}
	if t.count > 1 {
		t.store(t.target.tailCell(), uint64(t.end+uint32(t.count-1)), t.finish)
		return
	}
	t.finish(0, true)
}

func (t *stealing) finish(uint64, bool) {
	t.End(api.Result{V: t.taken[t.count-1]})
}
