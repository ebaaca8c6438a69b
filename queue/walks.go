package queue

import (
	"slices"

	"coachyard/api"
	"coachyard/walk"
)

// mostTasks can be put in at once.
const mostTasks = 300

// steps is a walk to one end of a queue, of which it reads the node and what is next to that; it looks anew as long as others are faster.
type steps struct {
	*walk.Walk
	Line
	endCell int    // the head, where one takes, or the tail, where one puts
	end     uint64 // what that was
	node    int    // the end's node
	next    uint64 // what the next of that was
	look    func() // what is done with each end that is told
	act     func() // what is done with the next, as the end stayed
}

// putting is a walk that fills nodes of its own with tasks, and lays them in behind the tail's one, all at once.
type putting struct {
	steps
	tasks []uint64
	nodes []int
	done  int // how many nodes are filled
	code  api.Code
}

// taking is a walk that turns the head to the node behind its one, of which it takes the task.
type taking struct {
	steps
	tail uint64
	task uint64
}

// Put puts the tasks of l in, side by side.
func (q Line) Put(l []uint64) *walk.Walk {
	return q.along(amiss(len(l)), func(s steps) {
		p := &putting{steps: s, tasks: slices.Clone(l)}
		p.endCell, p.look, p.act = p.tailCell(), p.loadNext, p.link
		p.holdTillEnd(p.tasks...)
		p.takeNode()
	})
}

// Take takes the first task.
func (q Line) Take() *walk.Walk {
	return q.along(api.Fine, func(s steps) {
		t := &taking{steps: s}
		t.endCell, t.look, t.act = t.At, t.loadTail, t.choose
		t.begin()
	})
}

// along makes a walk to the queue, or one that is refused: with e, where the queue is right.
func (q Line) along(e api.Code, begin func(s steps)) *walk.Walk {
	return walk.New(func(w *walk.Walk) {
		if !q.Right() {
			e = api.Arg
		}
		if e != api.Fine {
			w.Break(e)
			return
		}
		begin(steps{Walk: w, Line: q})
	})
}

// amiss tells why so many tasks can't be put in at once, if so.
func amiss(tasks int) api.Code {
	if tasks == 0 {
		return api.Arg
	}
	if tasks > mostTasks {
		return api.Long
	}
	return api.Fine
}

func (s *steps) load(cell int, next func(v uint64, won bool)) {
	s.Ask(api.Access{Kind: api.Load, Cell: cell}, next)
}

func (s *steps) store(cell int, v uint64, next func(v uint64, won bool)) {
	s.Ask(api.Access{Kind: api.Store, Cell: cell, A: v}, next)
}

// raise turns a cell from u to a node: of all who saw the same pair there, one alone wins that.
func (s *steps) raise(cell int, u uint64, node int, next func(v uint64, won bool)) {
	s.Ask(api.Access{Kind: api.Cas, Cell: cell, A: u, B: raised(u, node)}, next)
}

// holdTillEnd makes it hold these tasks. As others may break it, a walk that went into it lets go of all that it holds.
func (s *steps) holdTillEnd(tasks ...uint64) {
	s.Hold(tasks)
	walk.New(func(w *walk.Walk) {
		w.Into(s.Walk, func(api.Result) { s.Hold(nil) })
	})
}

func (s *steps) begin() {
	s.load(s.endCell, s.readEnd)
}

func (s *steps) readEnd(v uint64, _ bool) {
	s.end, s.node = v, nodeOf(v)
	if s.brokenBy(s.node) {
		return
	}
	s.look()
}

// brokenBy tells whether that is no node: the walk has ended with Broken then.
func (s *steps) brokenBy(node int) bool {
	if s.has(node) {
		return false
	}
	s.Break(api.Broken)
	return true
}

func (s *steps) loadNext() {
	s.load(s.nextCell(s.node), s.readNext)
}

func (s *steps) readNext(v uint64, _ bool) {
	s.next = v
	s.load(s.endCell, s.readAgain)
}

// readAgain acts only if the end stayed: else its node may have been put back, and what its next was is of no worth.
func (s *steps) readAgain(v uint64, won bool) {
	if v != s.end {
		s.readEnd(v, won)
		return
	}
	s.act()
}

// moveTail does what one has still to do who laid nodes in behind the tail's one, so that nobody need wait for that one.
func (s *steps) moveTail(tail uint64) {
	node := nodeOf(s.next)
	if s.brokenBy(node) {
		return
	}
	s.raise(s.tailCell(), tail, node, s.anew)
}

func (s *steps) anew(uint64, bool) {
	s.begin()
}

func (p *putting) takeNode() {
	p.Into(p.Arena().Take(), p.took)
}

func (p *putting) took(r api.Result) {
	if r.Code != api.Fine {
		p.code = r.Code
		p.putBack()
		return
	}
	p.nodes = append(p.nodes, int(r.V))
	if len(p.nodes) < len(p.tasks) {
		p.takeNode()
		return
	}
	p.fill()
}

// putBack puts back what it took, as there are too few nodes for its tasks.
func (p *putting) putBack() {
	if len(p.nodes) == 0 {
		p.Break(p.code)
		return
	}
	node := p.nodes[0]
	p.nodes = p.nodes[1:]
	p.Into(p.Arena().Put(node), p.isBack)
}

func (p *putting) isBack(api.Result) {
	p.putBack()
}

func (p *putting) fill() {
	p.store(p.taskCell(p.nodes[p.done]), p.tasks[p.done], p.filled)
}

func (p *putting) filled(uint64, bool) {
	p.load(p.nextCell(p.nodes[p.done]), p.chain)
}

func (p *putting) chain(v uint64, _ bool) {
	here, behind := p.nodes[p.done], 0
	p.done++
	if p.done < len(p.nodes) {
		behind = p.nodes[p.done]
	}
	p.store(p.nextCell(here), raised(v, behind), p.chained)
}

func (p *putting) chained(uint64, bool) {
	if p.done < len(p.nodes) {
		p.fill()
		return
	}
	p.begin()
}

func (p *putting) link() {
	if nodeOf(p.next) != 0 {
		p.moveTail(p.end)
		return
	}
	p.raise(p.nextCell(p.node), p.next, p.nodes[0], p.linked)
}

func (p *putting) linked(_ uint64, won bool) {
	if !won {
		p.begin()
		return
	}
	p.Hold(nil)
	p.raise(p.tailCell(), p.end, p.nodes[len(p.nodes)-1], p.finish)
}

func (p *putting) finish(uint64, bool) {
	p.End(api.Result{})
}

func (t *taking) loadTail() {
	t.load(t.tailCell(), t.readTail)
}

func (t *taking) readTail(v uint64, _ bool) {
	t.tail = v
	t.loadNext()
}

func (t *taking) choose() {
	first, last := nodeOf(t.next), nodeOf(t.tail) == t.node
	if first == 0 && last {
		t.Break(api.Empty)
		return
	}
	if first == 0 {
		t.begin()
		return
	}
	if last {
		t.moveTail(t.tail)
		return
	}
	if t.brokenBy(first) {
		return
	}
	t.load(t.taskCell(first), t.claim)
}

// claim turns the head to the node whose task it has read by then: behind that another one may put the node back, which is then filled anew.
func (t *taking) claim(v uint64, _ bool) {
	t.task = v
	t.raise(t.At, t.end, nodeOf(t.next), t.claimed)
}

func (t *taking) claimed(_ uint64, won bool) {
	if !won {
		t.begin()
		return
	}
	t.holdTillEnd(t.task)
	t.Into(t.Arena().Put(t.node), t.finish)
}

func (t *taking) finish(r api.Result) {
	if r.Code != api.Fine {
		t.Break(r.Code)
		return
	}
	t.End(api.Result{V: t.task})
}
