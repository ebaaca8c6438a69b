package deque

import (
	"coachyard/api"
	"coachyard/walk"
)

// steps is a walk along a deque, and what it knows of that.
type steps struct {
	*walk.Walk
	Row
	top, bottom uint64
	task        uint64
}

// pushing is the owner's walk that lays its task in at the bottom.
type pushing struct {
	steps
}

// popping is the owner's walk that takes the task at the bottom.
type popping struct {
	steps
	result api.Result
}

// stealing is the walk of another one, that takes the task at the top.
type stealing struct {
	steps
}

// Push lays v in.
func (d Row) Push(v uint64) *walk.Walk {
	return d.along(func(s steps) {
		p := &pushing{steps: s}
		p.task = v
		p.begin()
	})
}

// Pop takes what was pushed last.
func (d Row) Pop() *walk.Walk {
	return d.along(func(s steps) {
		p := &popping{steps: s, result: api.Result{Code: api.Empty}}
		p.begin()
	})
}

// Steal takes what was pushed first.
func (d Row) Steal() *walk.Walk {
	return d.along(func(s steps) {
		t := &stealing{steps: s}
		t.begin()
	})
}

// along makes a walk along the deque, if there can be such a one.
func (d Row) along(begin func(s steps)) *walk.Walk {
	return walk.New(func(w *walk.Walk) {
		if !d.Right() {
			w.Break(api.Arg)
			return
		}
		begin(steps{Walk: w, Row: d})
	})
}

func (s *steps) load(cell int, next func(v uint64, won bool)) {
	s.Ask(api.Access{Kind: api.Load, Cell: cell}, next)
}

func (s *steps) store(cell int, v uint64, next func(v uint64, won bool)) {
	s.Ask(api.Access{Kind: api.Store, Cell: cell, A: v}, next)
}

// claim raises the top: of all who want the task there, one alone wins that.
func (s *steps) claim(next func(v uint64, won bool)) {
	s.Ask(api.Access{Kind: api.Cas, Cell: s.At, A: s.top, B: s.top + 1}, next)
}

// hold makes it hold its task till it has ended. As others may break it, a walk that went into it lets go of the task.
func (s *steps) hold() {
	s.Hold([]uint64{s.task})
	walk.New(func(w *walk.Walk) {
		w.Into(s.Walk, func(api.Result) { s.Hold(nil) })
	})
}

func (p *pushing) begin() {
	p.hold()
	p.load(p.bottomCell(), p.readBottom)
}

func (p *pushing) readBottom(v uint64, _ bool) {
	p.bottom = v
	p.load(p.At, p.readTop)
}

func (p *pushing) readTop(v uint64, _ bool) {
	if ahead(p.bottom, v) >= int64(p.Size) {
		p.Break(api.Full)
		return
	}
	p.store(p.slot(p.bottom), p.task, p.laid)
}

func (p *pushing) laid(uint64, bool) {
	p.store(p.bottomCell(), p.bottom+1, p.finish)
}

func (p *pushing) finish(uint64, bool) {
	p.End(api.Result{})
}

func (p *popping) begin() {
	p.load(p.bottomCell(), p.readBottom)
}

func (p *popping) readBottom(v uint64, _ bool) {
	p.bottom = v - 1
	p.store(p.bottomCell(), p.bottom, p.lowered)
}

func (p *popping) lowered(uint64, bool) {
	p.load(p.At, p.readTop)
}

func (p *popping) readTop(v uint64, _ bool) {
	p.top = v
	if ahead(p.bottom, p.top) < 0 {
		p.restore()
		return
	}
	p.load(p.slot(p.bottom), p.readTask)
}

func (p *popping) readTask(v uint64, _ bool) {
	p.task = v
	if ahead(p.bottom, p.top) > 0 {
		p.End(api.Result{V: p.task})
		return
	}
	p.claim(p.claimed)
}

func (p *popping) claimed(_ uint64, won bool) {
	if won {
		p.hold()
		p.result = api.Result{V: p.task}
	}
	p.restore()
}

// restore raises the bottom again: of an empty deque it stands where the top does.
func (p *popping) restore() {
	p.store(p.bottomCell(), p.bottom+1, p.finish)
}

func (p *popping) finish(uint64, bool) {
	p.End(p.result)
}

func (t *stealing) begin() {
	t.load(t.At, t.readTop)
}

func (t *stealing) readTop(v uint64, _ bool) {
	t.top = v
	t.load(t.bottomCell(), t.readBottom)
}

func (t *stealing) readBottom(v uint64, _ bool) {
	if ahead(v, t.top) < 1 {
		t.Break(api.Empty)
		return
	}
	t.load(t.slot(t.top), t.readTask)
}

func (t *stealing) readTask(v uint64, _ bool) {
	t.task = v
	t.claim(t.claimed)
}

func (t *stealing) claimed(_ uint64, won bool) {
	if !won {
		t.Break(api.Abort)
		return
	}
	t.End(api.Result{V: t.task})
}
