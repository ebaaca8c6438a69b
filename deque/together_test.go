package deque_test

import (
	"fmt"
	"slices"
	"testing"

	"coachyard/api"
	"coachyard/cells"
	"coachyard/deque"
	"coachyard/loom"
	"coachyard/walk"
)

// P7.3

const (
	push  = 'p'
	pop   = 'o'
	steal = 's'
)

// answer is what was given to a walk.
type answer struct {
	v   uint64
	won bool
}

// call is one under way: which one, the task of a push, and what was given to its walk.
type call struct {
	kind  byte
	task  uint64
	given []answer
}

func (c call) walk(d deque.Row) *walk.Walk {
	switch c.kind {
	case push:
		return d.Push(c.task)
	case pop:
		return d.Pop()
	}
	return d.Steal()
}

// judge holds what calls tell against what was pushed and wasn't taken, in order.
type judge struct {
	*testing.T
	deque.Row
	kinds map[string]int // how often which call has ended how, behind how many steps
}

// ended tells what is left behind the end of a call, whose last step was done just now.
func (j *judge) ended(left []uint64, c call, r api.Result, m *cells.Mem) []uint64 {
	j.Helper()
	kind := fmt.Sprintf("%c%d in %d", c.kind, r.Code, len(c.given))
	j.kinds[kind]++
	if r.Code != api.Fine && r.V != 0 || len(r.L) != 0 {
		j.Fatalf("%s told %+v", kind, r)
	}
	switch {
	case c.kind == push && r.Code == api.Fine && r.V == 0:
		return append(left, c.task)
	case c.kind == push && r.Code == api.Full:
		if l, e := j.All(m); e != api.Fine || len(l) != j.Size {
			j.Fatalf("Full, and in it are %d, %d", l, e)
		}
		return left
	case c.kind == pop && r.Code == api.Fine && len(left) > 0 && r.V == left[len(left)-1]:
		return left[:len(left)-1]
	case c.kind == pop && r.Code == api.Empty && len(left) == 0,
		c.kind == steal && r.Code == api.Empty:
		isIn(j.T, j.Row, m)
		return left
	case c.kind == steal && r.Code == api.Fine && len(left) > 0 && r.V == left[0]:
		return left[1:]
	case c.kind == steal && r.Code == api.Abort:
		if top, _, _ := m.Do(load(j.At)); top == c.given[0].v {
			j.Fatal("Abort, and nobody was faster")
		}
		return left
	}
	j.Fatalf("%s told %+v, where %d are left", kind, r, left)
	return nil
}

// look sees that each task that is left is in the row, but for the one that a pop is at; and that the owner holds what it must.
func (j *judge) look(left []uint64, owner call, held []uint64, m *cells.Mem) {
	j.Helper()
	in, holds := left, []uint64(nil)
	switch {
	case owner.kind == push:
		holds = []uint64{owner.task}
	case owner.kind == pop && len(owner.given) >= 2:
		in = left[:max(0, len(left)-1)]
		if len(owner.given) == 5 && owner.given[4].won {
			holds = left
		}
	}
	isIn(j.T, j.Row, m, in...)
	if !slices.Equal(held, holds) {
		j.Fatalf("held are %d, not %d", held, holds)
	}
}

// hand is a worker. As a walk hangs on what it was given alone (R6), it can be made again from that.
type hand struct {
	calls string // those to come, the one under way among them
	given []answer
}

// moment is all that the next steps, and what is right of them, hang on. The first hand is the owner.
type moment struct {
	cells []uint64
	hands []hand
	task  uint64 // of the next push
	left  []uint64
}

func (m moment) under(who int) call {
	h := m.hands[who]
	if h.calls == "" {
		return call{}
	}
	return call{kind: h.calls[0], task: m.task, given: h.given}
}

func (m moment) walk(d deque.Row, who int) *walk.Walk {
	w := m.under(who).walk(d)
	for _, g := range m.hands[who].given {
		w.Give(g.v, g.won)
	}
	return w
}

func (m moment) copied() moment {
	c := moment{slices.Clone(m.cells), slices.Clone(m.hands), m.task, slices.Clone(m.left)}
	for i, h := range m.hands {
		c.hands[i].given = slices.Clone(h.given)
	}
	return c
}

// play goes through all that can come of a moment, each moment once.
type play struct {
	judge
	seen map[string]bool
	ends int
}

// from goes on from a moment by each worker's next step.
func (p *play) from(m moment) {
	key := fmt.Sprint(m)
	if p.seen[key] {
		return
	}
	p.seen[key] = true
	p.lookAt(m)
	over := true
	for who, h := range m.hands {
		if h.calls != "" {
			over = false
			c := m.copied()
			p.step(&c, who)
			p.from(c)
		}
	}
	if over {
		p.ends++
	}
}

func (p *play) lookAt(m moment) {
	var held []uint64
	for who, h := range m.hands {
		if h.calls != "" {
			held = append(held, m.walk(p.Row, who).Held()...)
		}
	}
	p.look(m.left, m.under(0), held, memory(p.T, m.cells...))
}

// step does one step of a worker, by a loom whose only worker that is.
func (p *play) step(m *moment, who int) {
	h := &m.hands[who]
	mem := memory(p.T, m.cells...)
	l, _ := loom.New(mem, 1)
	w := m.walk(p.Row, who)
	told(p.T, l.Start(0, w), api.Fine)
	a, _ := w.Want()
	was := m.cells[a.Cell]
	told(p.T, l.Pick(0), api.Fine)
	h.given = append(h.given, answer{was, a.Kind != api.Cas || was == a.A})
	if len(h.given) > 6 {
		p.Fatalf("a call goes on and on: %+v", m)
	}
	m.cells = mem.All()
	if r, ok := l.Result(0); ok {
		m.left = p.ended(m.left, m.under(who), r, mem)
		if h.calls[0] == push {
			m.task--
		}
		h.calls, h.given = h.calls[1:], nil
	}
}

// start is the moment in which some tasks are in the row, whose top is given, and all other cells are of no matter.
func (p *play) start(top uint64, in int, calls ...string) moment {
	m := moment{cells: slices.Repeat([]uint64{7}, p.At+p.Size+2), task: all - 10}
	for n := range uint64(in) {
		m.cells[slot(p.Row, top+n)] = 100 + n
		m.left = append(m.left, 100+n)
	}
	m.cells[p.At], m.cells[p.At+1] = top, top+uint64(in)
	for _, c := range calls {
		m.hands = append(m.hands, hand{calls: c})
	}
	return m
}

// All orders of all steps of an owner and some others, whose calls meet each other in every way.
func TestTogetherInAllOrders(t *testing.T) {
	kinds := map[string]int{}
	for _, c := range []struct {
		size  int
		top   uint64
		in    int
		calls []string
	}{
		{2, 0, 0, []string{"p", "s", "s"}},
		{2, 0, 0, []string{"po", "s", "s"}},
		{2, 5, 1, []string{"o", "s", "s", "s"}},
		{2, all - 1, 1, []string{"opo", "ss"}},
		{2, all, 2, []string{"oo", "s", "s"}},
		{2, all - 1, 2, []string{"ppo", "s", "s"}},
		{2, half - 1, 2, []string{"opoo", "ss"}},
		{2, half, 0, []string{"ppopoo", "s"}},
		{2, 9, 0, []string{"popo", "s", "s"}},
		{2, 3, 1, []string{"popp", "sss"}},
		{2, all - 2, 0, []string{"ppoppo", "s", "s"}},
		{2, 6, 2, []string{"poppo", "s", "s", "s"}},
		{2, 0, 1, []string{"opopo", "ss", "s"}},
		{4, 1, 3, []string{"pooo", "s", "s"}},
		{4, all - 2, 4, []string{"popp", "ss"}},
		{4, half - 2, 2, []string{"ooo", "ss", "s"}},
		{4, 0, 2, []string{"oo", "s", "s", "s"}},
	} {
		p := &play{judge: judge{t, deque.Row{At: 2, Size: c.size}, kinds}, seen: map[string]bool{}}
		p.from(p.start(c.top, c.in, c.calls...))
		if p.ends == 0 {
			t.Errorf("%+v never ends", c)
		}
	}
	var met []string
	for kind := range kinds {
		met = append(met, kind)
	}
	slices.Sort(met)
	if !slices.Equal(met, []string{"o0 in 4", "o0 in 6", "o5 in 4", "o5 in 6", "p0 in 4", "p4 in 2", "s0 in 4", "s5 in 2", "s6 in 4"}) {
		t.Error("what came of the calls:", kinds)
	}
}

// drawn tells numbers that look like drawn ones, the same ones each time.
func drawn(seed uint64) func(n int) int {
	return func(n int) int {
		seed = seed*6364136223846793005 + 1442695040888963407
		return int(seed >> 33 % uint64(n))
	}
}

// many are the workers of a loom, worker 0 the owner, and what is left.
type many struct {
	judge
	*loom.Loom
	under []call
	task  uint64
	left  []uint64
}

// Many workers on one loom, in drawn orders, over all places where counts go round.
func TestManyTogether(t *testing.T) {
	for seed, top := range []uint64{0, all - 30, half - 30, 1<<32 - 30} {
		for _, size := range []int{2, 4, 32, 256} {
			for _, owners := range []int{2, 8, 30} {
				tryMany(t, deque.Row{At: 3, Size: size}, top, owners, drawn(uint64(seed)))
			}
		}
	}
}

// tryMany picks the owner as often as some others: the more often, the fuller the row is.
func tryMany(t *testing.T, d deque.Row, top uint64, owners int, draw func(int) int) {
	mem := filled(t, d.At+d.Size+4, 7)
	mem.Do(store(d.At, top))
	mem.Do(store(d.At+1, top))
	l, e := loom.New(mem, api.MaxWorkers)
	told(t, e, api.Fine)
	m := &many{judge: judge{t, d, map[string]int{}}, Loom: l, under: make([]call, l.Workers()), task: 1000}
	for i := range 5000 {
		who := max(0, draw(l.Workers()-1+owners)-owners+1)
		if m.under[who].kind == 0 {
			// In turn the row is filled and emptied.
			m.begin(who, draw(10) < 2+i/1000%2*6)
		}
		m.step(who)
	}
	for who := range l.Workers() {
		m.finish(who)
	}
	for n := len(m.left); n >= 0; n-- {
		m.begin(0, false)
		m.finish(0)
	}
	isIn(t, d, mem)
	if l := mem.All(); len(m.left) != 0 || l[d.At] != l[d.At+1] || !slices.Equal(l[:3], []uint64{7, 7, 7}) || !slices.Equal(l[d.At+d.Size+2:], []uint64{7, 7}) {
		t.Error("at last are left", m.left, l[:d.At+2])
	}
}

func (m *many) begin(who int, lay bool) {
	c := call{kind: steal}
	if who == 0 && lay {
		m.task++
		c = call{kind: push, task: m.task}
	} else if who == 0 {
		c = call{kind: pop}
	}
	m.under[who] = c
	told(m.T, m.Start(who, c.walk(m.Row)), api.Fine)
}

func (m *many) finish(who int) {
	m.Helper()
	for range 6 {
		if m.under[who].kind != 0 {
			m.step(who)
		}
	}
	if m.under[who].kind != 0 {
		m.Fatal("a call goes on and on")
	}
}

func (m *many) step(who int) {
	m.Helper()
	before := m.Mem().All()
	told(m.T, m.Pick(who), api.Fine)
	c := &m.under[who]
	c.given = append(c.given, m.answered(before, *c))
	if r, ok := m.Loom.Result(who); ok {
		m.left = m.ended(m.left, *c, r, m.Mem())
		*c = call{}
	}
	m.look(m.left, m.under[0], m.Held(), m.Mem())
}

// answered tells what the step of a call was given, as far as it is looked at: a steal's top, and whether a pop's Cas won.
func (m *many) answered(before []uint64, c call) answer {
	top, _, _ := m.Mem().Do(load(m.At))
	return answer{before[m.At], top != before[m.At]}
}

// The chapter's example, and what the cells are then.
func TestThree(t *testing.T) {
	d := deque.Row{At: 0, Size: 4}
	m := filled(t, 6, 0)
	l, _ := loom.New(m, 2)
	for _, c := range []struct {
		who int
		w   *walk.Walk
		end api.Result
	}{
		{0, d.Push(1), api.Result{}},
		{0, d.Push(2), api.Result{}},
		{0, d.Push(3), api.Result{}},
		{1, d.Steal(), api.Result{V: 1}},
		{0, d.Pop(), api.Result{V: 3}},
		{0, d.Pop(), api.Result{V: 2}},
		{0, d.Pop(), api.Result{Code: api.Empty}},
		{1, d.Steal(), api.Result{Code: api.Empty}},
	} {
		told(t, l.Start(c.who, c.w), api.Fine)
		if _, e := l.Alone(c.who, 6); e != api.Fine {
			t.Fatal(e)
		}
		isEnded(t, c.w, c.end)
	}
	isCells(t, m, 2, 2, 1, 2, 3, 0)
	if l.Steps() != 3*4+4+4+6+4+2 {
		t.Error(l.Steps())
	}
}

// Two deques in one memory, one behind the other, leave each other alone.
func TestTwoDeques(t *testing.T) {
	c, d := deque.Row{At: 1, Size: 2}, deque.Row{At: 5, Size: 2}
	m := filled(t, 10, 0)
	l, _ := loom.New(m, 2)
	for _, w := range [][]*walk.Walk{{c.Push(1), d.Push(2)}, {c.Push(3), d.Push(4)}, {c.Push(5), d.Push(6)}, {c.Steal(), d.Pop()}} {
		for who := range 2 {
			told(t, l.Start(who, w[who]), api.Fine)
		}
		for i := range 8 {
			l.Pick(i % 2)
		}
	}
	isIn(t, c, m, 3)
	isIn(t, d, m, 2)
	isCells(t, m, 0, 1, 2, 1, 3, 0, 1, 2, 4, 0)
}
