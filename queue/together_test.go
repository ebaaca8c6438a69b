package queue_test

import (
	"fmt"
	"slices"
	"testing"

	"coachyard/api"
	"coachyard/cells"
	"coachyard/loom"
	"coachyard/queue"
	"coachyard/walk"
)

// P9.4

// take is a kind of call; all others are Puts of so many tasks, '1' to '9'.
const take = 't'

// call is one under way, and what its steps did with the queue and the nodes.
type call struct {
	kind  byte
	tasks []uint64 // of a Put
	in    bool     // these are laid in
	out   []uint64 // what a Take took out
	nodes []int    // neither free nor in the queue, but its own
	bare  bool     // there was a moment in which nothing was in the queue
	short bool     // there was a moment in which no node was free
	steps int
}

// begun makes a call, and tells the number of the next task.
func (j *judge) begun(kind byte, task uint64) (call, uint64) {
	c := call{kind: kind}
	if kind != take {
		for range kind - '0' {
			c.tasks = append(c.tasks, task)
			task++
		}
	}
	return c, task
}

func (c call) held() []uint64 {
	if c.kind == take {
		return c.out
	}
	if c.in {
		return nil
	}
	return c.tasks
}

// judge holds what calls do and tell against what is in the queue, in order.
type judge struct {
	*testing.T
	queue.Line
	kinds map[string]int // how often which call has ended how
	most  map[string]int // and behind how many steps, at most
}

// memory is one in which so many tasks are in the queue, whose tail lags behind by some nodes, and a cell beside it at either end.
func (j *judge) memory(tag uint64, in, lag int) (*cells.Mem, []uint64) {
	m := filled(j.T, j.At+3*j.N+4, 7)
	told(j.T, j.Arena().Init(m, in+2), api.Fine)
	m.Do(api.Access{Kind: api.Or, Cell: j.At + 2, A: pair(tag, 0)})
	m.Do(store(j.At, pair(tag, 1)))
	m.Do(store(j.At+1, pair(tag, uint64(1+in-lag))))
	var left []uint64
	for i := range in {
		m.Do(store(nextCell(j.Line, uint64(i+1)), pair(tag, uint64(i+2))))
		m.Do(store(taskCell(j.Line, uint64(i+2)), uint64(1000+i)))
		left = append(left, uint64(1000+i))
	}
	m.Do(store(nextCell(j.Line, uint64(in+1)), pair(tag, 0)))
	return m, left
}

func (j *judge) walk(c call) *walk.Walk {
	if c.kind == take {
		return j.Take()
	}
	return j.Put(c.tasks)
}

// did writes down what a step did, and tells what is left in the queue then: whoever wins a Cas takes tasks out, lays some in, or has a node more or less.
func (j *judge) did(left []uint64, c *call, a api.Access, was uint64) []uint64 {
	j.Helper()
	c.steps++
	if a.Kind != api.Cas || was != a.A {
		j.stores(c, a)
		return left
	}
	switch {
	case a.Cell == j.At:
		if c.kind != take || len(c.out) > 0 || len(left) == 0 {
			j.Fatalf("%c takes out of %d", c.kind, left)
		}
		c.out, c.nodes = left[:1], []int{int(nodeOf(a.A))}
		return left[1:]
	case a.Cell == j.At+1:
		return left
	case a.Cell == j.At+2:
		j.changesHands(c, int(nodeOf(a.A)), int(nodeOf(a.B)))
		return left
	}
	if c.kind == take || c.in || len(c.nodes) != len(c.tasks) {
		j.Fatalf("%c lays in with the nodes %d", c.kind, c.nodes)
	}
	c.in, c.nodes = true, nil
	return append(slices.Clone(left), c.tasks...)
}

// stores looks that only what stands in a call's own nodes is stored.
func (j *judge) stores(c *call, a api.Access) {
	j.Helper()
	if a.Kind == api.Store && !slices.Contains(c.nodes, (a.Cell-j.At-3)%j.N+1) {
		j.Fatalf("%c stores in the cell %d, and has the nodes %d", c.kind, a.Cell, c.nodes)
	}
}

// changesHands writes down that the arena's first node went from one to another: it is a call's own, or free, by that.
func (j *judge) changesHands(c *call, from, to int) {
	c.nodes = slices.Clone(c.nodes)
	if i := slices.Index(c.nodes, to); i >= 0 {
		c.nodes = slices.Delete(c.nodes, i, i+1)
		return
	}
	c.nodes = append(c.nodes, from)
}

// ended looks whether a call, whose last step was done just now, may tell that.
func (j *judge) ended(c call, r api.Result) {
	j.Helper()
	kind := fmt.Sprintf("%c%d", c.kind, r.Code)
	j.kinds[kind]++
	j.most[kind] = max(j.most[kind], c.steps)
	right := len(r.L) == 0 && len(c.nodes) == 0
	switch {
	case c.kind == take && r.Code == api.Fine:
		right = right && slices.Equal(c.out, some(r.V))
	case c.kind == take && r.Code == api.Empty:
		right = right && r.V == 0 && len(c.out) == 0 && c.bare
	case c.kind != take && r.Code == api.Fine:
		right = right && r.V == 0 && c.in
	case c.kind != take && r.Code == api.NoMem:
		right = right && r.V == 0 && !c.in && c.short
	default:
		right = false
	}
	if !right {
		j.Fatalf("%s told %+v: %+v", kind, r, c)
	}
}

// look sees that just what is left is in the queue, that each node is at one place, and that walks hold what they must; and marks what moment that is.
func (j *judge) look(left []uint64, under []*call, held []uint64, m *cells.Mem) {
	j.Helper()
	isIn(j.T, j.Line, m, left...)
	l := m.All()
	free, e := j.Arena().Free(m)
	told(j.T, e, api.Fine)
	nodes := slices.Clone(free)
	for node := nodeOf(l[j.At]); node != 0; node = nodeOf(l[nextCell(j.Line, node)]) {
		nodes = append(nodes, int(node))
	}
	var want []uint64
	for _, c := range under {
		nodes = append(nodes, c.nodes...)
		want = append(want, c.held()...)
		c.bare = c.bare || len(left) == 0
		c.short = c.short || len(free) == 0
	}
	slices.Sort(nodes)
	if !slices.Equal(nodes, numbers(1, j.N)) {
		j.Fatalf("the nodes %d are in the queue, free, or a call's", nodes)
	}
	if !slices.Equal(held, want) {
		j.Fatalf("held are %d, not %d", held, want)
	}
	if l[j.At-1] != 7 || l[len(l)-1] != 7 {
		j.Fatal("a cell beside the queue has changed")
	}
}

// answer is what was given to a walk.
type answer struct {
	v   uint64
	won bool
}

// hand is a worker. As a walk hangs on what it was given alone (R6), it can be made again from that.
type hand struct {
	calls string // those to come, behind the one under way
	under call
	given []answer
}

// moment is all that the next steps, and what is right of them, hang on.
type moment struct {
	cells []uint64
	hands []hand
	task  uint64 // of the next Put
	left  []uint64
}

func (m moment) copied() moment {
	return moment{slices.Clone(m.cells), slices.Clone(m.hands), m.task, m.left}
}

// play goes through all that can come of a moment, each moment once.
type play struct {
	judge
	seen map[string]bool
	ends int
}

// next makes a hand begin its next call.
func (p *play) next(m *moment, who int) {
	h := &m.hands[who]
	h.under, h.given = call{}, nil
	if h.calls == "" {
		return
	}
	h.under, m.task = p.begun(h.calls[0], m.task)
	h.calls = h.calls[1:]
}

func (p *play) walk(h hand) *walk.Walk {
	w := p.judge.walk(h.under)
	for _, g := range h.given {
		w.Give(g.v, g.won)
	}
	return w
}

// from goes on from a moment by each worker's next step.
func (p *play) from(m moment) {
	p.lookAt(&m)
	key := fmt.Sprint(m)
	if p.seen[key] {
		return
	}
	p.seen[key] = true
	over := true
	for who, h := range m.hands {
		if h.under.kind != 0 {
			over = false
			c := m.copied()
			p.step(&c, who)
			p.from(c)
		}
	}
	if over {
		p.ends++
	}
}

func (p *play) lookAt(m *moment) {
	var held []uint64
	var under []*call
	for who := range m.hands {
		if h := &m.hands[who]; h.under.kind != 0 {
			under = append(under, &h.under)
			held = append(held, p.walk(*h).Held()...)
		}
	}
	p.look(m.left, under, held, memory(p.T, m.cells...))
}

// step does one step of a worker, by a loom whose only worker that is.
func (p *play) step(m *moment, who int) {
	h := &m.hands[who]
	mem := memory(p.T, m.cells...)
	l, _ := loom.New(mem, 1)
	w := p.walk(*h)
	told(p.T, l.Start(0, w), api.Fine)
	a, _ := w.Want()
	was := m.cells[a.Cell]
	told(p.T, l.Pick(0), api.Fine)
	h.given = append(slices.Clone(h.given), answer{was, a.Kind != api.Cas || was == a.A})
	if len(h.given) > 60 {
		p.Fatalf("a call goes on and on: %+v", m)
	}
	m.cells = mem.All()
	m.left = p.did(m.left, &h.under, a, was)
	if r, ok := l.Result(0); ok {
		p.ended(h.under, r)
		p.next(m, who)
	}
}

// start is the moment in which so many tasks are in the queue, and calls are begun.
func (p *play) start(tag uint64, in, lag int, calls ...string) moment {
	mem, left := p.memory(tag, in, lag)
	m := moment{cells: mem.All(), task: 100, left: left}
	for who, c := range calls {
		m.hands = append(m.hands, hand{calls: c})
		p.next(&m, who)
	}
	return m
}

// All orders of all steps of some workers, whose calls meet each other in every way.
func TestTogetherInAllOrders(t *testing.T) {
	kinds, most := map[string]int{}, map[string]int{}
	for _, c := range []struct {
		n     int
		tag   uint64
		in    int
		lag   int
		calls []string
	}{
		{2, 0, 0, 0, []string{"1t", "t"}},
		{2, all, 1, 0, []string{"1", "t"}},
		{2, all - 1, 0, 0, []string{"1", "1"}},
		{2, 5, 1, 0, []string{"t1", "t"}},
		{3, 0, 0, 0, []string{"1", "1"}},
		{3, all, 2, 0, []string{"tt", "t"}},
		{3, all - 1, 1, 0, []string{"1", "t", "t"}},
		{3, 1, 0, 0, []string{"2", "1"}},
		{3, 2, 0, 0, []string{"3", "t"}},
		{3, all, 2, 1, []string{"t", "1"}},
		{3, 0, 2, 2, []string{"t", "t"}},
		{4, 0, 0, 0, []string{"2t", "t"}},
		{4, all, 1, 1, []string{"1", "1"}},
		{4, all - 1, 3, 2, []string{"t", "1t"}},
		{4, 9, 1, 0, []string{"t", "2"}},
		{5, all, 0, 0, []string{"2", "2"}},
		{5, 0, 3, 3, []string{"1", "t"}},
		{3, all, 1, 0, []string{"t", "t", "t"}},
		{2, 3, 1, 1, []string{"t", "t", "t"}},
		{2, all, 1, 0, []string{"t", "t1t"}},
		{3, 0, 0, 0, []string{"1", "1t1"}},
		{3, 0, 0, 0, []string{"1", "1", "t"}},
	} {
		p := &play{judge: judge{t, queue.Line{At: 1, N: c.n}, kinds, most}, seen: map[string]bool{}}
		p.from(p.start(c.tag, c.in, c.lag, c.calls...))
		if p.ends == 0 {
			t.Errorf("%+v never ends", c)
		}
	}
	// Each of them was overtaken.
	for kind, alone := range map[string]int{"10": 11, "17": 1, "20": 17, "27": 7, "37": 10, "t0": 9, "t5": 4} {
		if most[kind] <= alone {
			t.Errorf("%s took %d steps at most", kind, most[kind])
		}
	}
	if len(kinds) != 7 {
		t.Error("what came of the calls:", kinds)
	}
}

// many are the workers of a loom, and what is left.
type many struct {
	judge
	*loom.Loom
	walks []*walk.Walk
	under []call
	task  uint64
	left  []uint64
	in    []uint64 // put in, and told Fine
	out   map[uint64]bool
}

// Many workers on one loom, in drawn orders, over all places where tags go round.
func TestManyTogether(t *testing.T) {
	kinds := map[string]int{}
	for seed, tag := range some(0, round-40, 1<<31-20) {
		for _, n := range []int{2, 3, 8, 100} {
			for _, workers := range []int{2, 3, 16} {
				m := newMany(t, queue.Line{At: 1, N: n}, workers, tag)
				m.kinds = kinds
				m.run(drawn(uint64(seed)))
			}
		}
	}
	for _, kind := range []string{"10", "17", "20", "27", "30", "37", "40", "47", "t0", "t5"} {
		if kinds[kind] < 50 {
			t.Error(kind, kinds)
		}
	}
	if len(kinds) != 10 {
		t.Error(kinds)
	}
}

func newMany(t *testing.T, q queue.Line, workers int, tag uint64) *many {
	j := judge{t, q, map[string]int{}, map[string]int{}}
	mem, _ := j.memory(tag, 0, 0)
	l, e := loom.New(mem, workers)
	told(t, e, api.Fine)
	return &many{judge: j, Loom: l, walks: make([]*walk.Walk, workers), under: make([]call, workers), out: map[uint64]bool{}}
}

// run lets them put more often, then take more often, in turn; at last all is taken.
func (m *many) run(draw func(int) int) {
	for i := range 2000 {
		who := draw(m.Workers())
		if m.under[who].kind == 0 {
			m.begin(who, drawnKind(i/400%2*5+2, draw))
		}
		m.step(who)
	}
	for who := range m.Workers() {
		m.finish(who)
	}
	m.compare()
	for n := len(m.left); n >= 0; n-- {
		m.begin(0, take)
		m.finish(0)
	}
	m.compare()
	if len(m.in) != len(m.out) || len(m.left) != 0 {
		m.Errorf("%d went in, %d came out, %d are left", len(m.in), len(m.out), m.left)
	}
}

func drawnKind(of int, draw func(int) int) byte {
	if draw(10) < of {
		return byte('1' + draw(4))
	}
	return take
}

// compare looks, when no walk is under way, that what went in has come out, or is in it, once, and that all other nodes are free.
func (m *many) compare() {
	m.Helper()
	l, e := m.All(m.Mem())
	told(m.T, e, api.Fine)
	met := map[uint64]bool{}
	for _, task := range l {
		if met[task] || m.out[task] {
			m.Fatalf("%d is met twice", task)
		}
		met[task] = true
	}
	for _, task := range m.in {
		if !met[task] && !m.out[task] {
			m.Fatalf("%d is lost", task)
		}
	}
	if len(met)+len(m.out) != len(m.in) {
		m.Fatalf("%d went in, %d are in it, %d came out", len(m.in), len(met), len(m.out))
	}
	if free, e := m.Arena().Free(m.Mem()); e != api.Fine || len(free)+1+len(l) != m.N {
		m.Fatalf("free are %d, %d, and %d are in it", free, e, len(l))
	}
}

func (m *many) begin(who int, kind byte) {
	m.under[who], m.task = m.begun(kind, m.task)
	m.walks[who] = m.walk(m.under[who])
	told(m.T, m.Start(who, m.walks[who]), api.Fine)
	m.lookNow()
}

func (m *many) finish(who int) {
	m.Helper()
	for i := 0; m.under[who].kind != 0; i++ {
		if i > 600 {
			m.Fatal("a call goes on and on")
		}
		m.step(who)
	}
}

func (m *many) step(who int) {
	m.Helper()
	before := m.Mem().All()
	a, _ := m.walks[who].Want()
	told(m.T, m.Pick(who), api.Fine)
	c := &m.under[who]
	m.left = m.did(m.left, c, a, before[a.Cell])
	if r, ok := m.Result(who); ok {
		m.ended(*c, r)
		m.count(*c, r)
		*c = call{}
	}
	m.lookNow()
}

func (m *many) lookNow() {
	m.Helper()
	var under []*call
	for who := range m.under {
		if m.under[who].kind != 0 {
			under = append(under, &m.under[who])
		}
	}
	m.look(m.left, under, m.Held(), m.Mem())
}

// count notes what went in and came out, by what is told alone. (What comes out may be told ahead of the end of the Put that laid it in.)
func (m *many) count(c call, r api.Result) {
	m.Helper()
	if c.kind != take && r.Code == api.Fine {
		m.in = append(m.in, c.tasks...)
	}
	if c.kind == take && r.Code == api.Fine {
		if m.out[r.V] {
			m.Fatalf("%d comes out twice", r.V)
		}
		m.out[r.V] = true
	}
}

// One puts, another one takes: whatever the order, what comes out is just what went in, in order.
func TestInOrder(t *testing.T) {
	for seed := range uint64(40) {
		draw := drawn(seed)
		q := queue.Line{At: 0, N: 2 + draw(6)}
		m := filled(t, q.Cells(), 0)
		told(t, q.Init(m), api.Fine)
		l, _ := loom.New(m, 2)
		var in, out, last []uint64
		for task := uint64(1); len(out) < 60; {
			if !l.Busy(0) {
				if r, ok := l.Result(0); ok && r.Code == api.Fine {
					in = append(in, last...)
				}
				last = nil
				for range 1 + draw(3) {
					last = append(last, task)
					task++
				}
				told(t, l.Start(0, q.Put(last)), api.Fine)
			}
			if !l.Busy(1) {
				if r, ok := l.Result(1); ok && r.Code == api.Fine {
					out = append(out, r.V)
				}
				told(t, l.Start(1, q.Take()), api.Fine)
			}
			told(t, l.Pick(draw(2)), api.Fine)
		}
		if all := append(in, last...); len(all) < len(out) || !slices.Equal(all[:len(out)], out) {
			t.Errorf("in went %d, out came %d", all, out)
		}
	}
}

// The chapter's example, and what the cells are then.
func TestThree(t *testing.T) {
	q := queue.Line{At: 0, N: 3}
	m := filled(t, 12, 5)
	told(t, q.Init(m), api.Fine)
	l, _ := loom.New(m, 1)
	alone(t, l, q.Put(some(7, 8)), 17, api.Result{})
	isIn(t, q, m, 7, 8)
	isCells(t, m, 1, 1<<32+3, 2<<32, 0, 3, 0, 0, 7, 8, 1<<32+2, 1<<32+3, 1<<32)
	alone(t, l, q.Put(some(9)), 1, api.Result{Code: api.NoMem})
	alone(t, l, q.Take(), 9, api.Result{V: 7})
	isIn(t, q, m, 8)
	alone(t, l, q.Put(some(9)), 11, api.Result{})
	isIn(t, q, m, 8, 9)
	alone(t, l, q.Take(), 9, api.Result{V: 8})
	alone(t, l, q.Take(), 9, api.Result{V: 9})
	alone(t, l, q.Take(), 4, api.Result{Code: api.Empty})
	isIn(t, q, m)
	isFree(t, q, m, 3, 2)
	isCells(t, m, 3<<32+1, 2<<32+1, 6<<32+3, 0, 0, 2, 9, 7, 8, 2<<32, 1<<32+3, 2<<32+1)
}

// Two queues in one memory, one behind the other, leave each other alone.
func TestTwoQueues(t *testing.T) {
	a, b := queue.Line{At: 1, N: 2}, queue.Line{At: 10, N: 3}
	m := filled(t, 23, 9)
	told(t, a.Init(m), api.Fine)
	told(t, b.Init(m), api.Fine)
	l, _ := loom.New(m, 4)
	for who, w := range []*walk.Walk{a.Put(some(5)), b.Put(some(6, 7)), a.Put(some(8)), b.Take()} {
		told(t, l.Start(who, w), api.Fine)
	}
	for i := range 4 * 40 {
		l.Pick(i % 4)
	}
	for who, code := range []api.Code{api.Fine, api.Fine, api.NoMem, api.Empty} {
		if r, ok := l.Result(who); !ok || r.Code != code || r.V != 0 {
			t.Errorf("worker %d ended with %+v, %t", who, r, ok)
		}
	}
	isIn(t, a, m, 5)
	isIn(t, b, m, 6, 7)
	if c := m.All(); c[0] != 9 || c[22] != 9 {
		t.Error("a cell beside them has changed")
	}
}
