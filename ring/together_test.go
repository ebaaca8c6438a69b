package ring_test

import (
	"fmt"
	"slices"
	"testing"

	"coachyard/api"
	"coachyard/cells"
	"coachyard/loom"
	"coachyard/ring"
	"coachyard/walk"
)

// P8.3

// Kinds of calls; from 'a' on: a steal from the ring of that worker, each into its own one.
const (
	push = '+'
	pop  = '-'
)

// call is one under way: which one, the task of a push, and what its steps did with rings and told.
type call struct {
	kind  byte
	task  uint64
	taken []uint64 // turned out of a ring by it, and not laid into another one
	laid  int
	held  []uint64
	steps int
}

func begun(kind byte, task uint64) call {
	if kind == push {
		return call{kind: kind, task: task, held: some(task)}
	}
	return call{kind: kind}
}

// judge holds what calls tell against what is in the rings, in order. Each worker has one.
type judge struct {
	*testing.T
	rings []ring.Row
	kinds map[string]int // how often which call has ended how
	most  map[string]int // and behind how many steps, at most
}

func newJudge(t *testing.T, workers, size int) judge {
	j := judge{T: t, kinds: map[string]int{}, most: map[string]int{}}
	for who := range workers {
		j.rings = append(j.rings, ring.Row{At: 1 + who*(size+2), Size: size})
	}
	return j
}

// memory is one in which in[n] tasks are in the ring n, whose counts begin at first, and a cell beside all rings at either end.
func (j *judge) memory(first uint64, in ...int) (*cells.Mem, [][]uint64) {
	last := j.rings[len(j.rings)-1]
	m := filled(j.T, last.At+last.Size+3, 7)
	left := make([][]uint64, len(j.rings))
	for n, r := range j.rings {
		for k := range in[n] {
			task := uint64(1000*(n+1) + k)
			m.Do(store(slot(r, plus(first, k)), task))
			left[n] = append(left[n], task)
		}
		m.Do(store(r.At, pair(first, first)))
		m.Do(store(r.At+1, plus(first, in[n])))
	}
	return m, left
}

func (j *judge) walk(who int, c call) *walk.Walk {
	switch c.kind {
	case push:
		return j.rings[who].Push(c.task)
	case pop:
		return j.rings[who].Pop()
	}
	return j.rings[c.kind-'a'].Steal(j.rings[who])
}

// did writes down what a step did: a head that is turned takes the first tasks out, a tail that is raised lays some in.
func (j *judge) did(left [][]uint64, who int, c *call, a api.Access, was uint64) {
	j.Helper()
	c.steps++
	for n, r := range j.rings {
		switch {
		case a.Cell < r.At || a.Cell > r.At+r.Size+1:
		case a.Cell == r.At && a.Kind == api.Cas && was == a.A:
			k := aheadOf(loOf(a.B), loOf(a.A))
			if k < 0 || k > (len(left[n])+1)/2 && c.kind != pop || k > len(left[n]) || c.kind == push && len(left[n]) < r.Size {
				j.Fatalf("%c took %d of %d", c.kind, k, left[n])
			}
			c.taken = append(slices.Clone(c.taken), left[n][:k]...)
			left[n] = slices.Clone(left[n][k:])
		case a.Cell == r.At+1 && a.Kind == api.Store:
			j.lay(left, who, n, c, aheadOf(loOf(a.A), loOf(was)))
		case a.Cell > r.At+1 && a.Kind == api.Load:
			c.held = append(slices.Clone(c.held), was)
		}
	}
}

// lay writes down that a call laid k tasks into the ring n.
func (j *judge) lay(left [][]uint64, who, n int, c *call, k int) {
	j.Helper()
	from := c.taken
	if c.kind == push {
		from = some(c.task)
	}
	if n != who || k < 1 || k > len(from) || c.laid > 0 {
		j.Fatalf("%c of %d laid %d of %d into the ring %d", c.kind, who, k, from, n)
	}
	left[n] = append(slices.Clone(left[n]), from[:k]...)
	c.laid = k
	if c.kind != push {
		c.taken = slices.Clone(c.taken[k:])
	}
}

// ended looks whether a call, whose last step was done just now, may tell that.
func (j *judge) ended(left [][]uint64, who int, c call, r api.Result, m *cells.Mem) {
	j.Helper()
	kind := fmt.Sprintf("%c%d", min(c.kind, 'a'), r.Code)
	j.kinds[kind]++
	j.most[kind] = max(j.most[kind], c.steps)
	own := j.rings[who]
	right := r.V == 0 && len(r.L) == 0 && len(c.taken) == 0 && c.laid == 0
	switch kind {
	case "+0":
		right = r.V == 0 && len(r.L) == 0 && len(c.taken) == 0 && c.laid == 1
	case "+4":
		right = r.V == 0 && slices.Equal(r.L, c.taken) && len(r.L) == own.Size/2 && c.laid == 0
	case "-0", "a0":
		right = slices.Equal(c.taken, some(r.V)) && len(r.L) == 0
	case "-5":
		right = right && len(left[who]) == 0
	case "a5":
		right = right && len(left[c.kind-'a']) == 0
	case "a4":
		// It takes no step of its own meanwhile, so that its tail stays.
		l := m.All()
		right = right && aheadOf(loOf(l[own.At+1]), hiOf(l[own.At])) > own.Size/2
	case "+8", "a8":
	default:
		right = false
	}
	if !right {
		j.Fatalf("%s told %+v, where %d are taken, %d laid in, and %d left", kind, r, c.taken, c.laid, left)
	}
}

// look sees that just what is left is in the rings, and that walks hold what they must.
func (j *judge) look(left [][]uint64, under []call, held []uint64, m *cells.Mem) {
	j.Helper()
	var want []uint64
	for n, r := range j.rings {
		isIn(j.T, r, m, left[n]...)
		want = append(want, under[n].held...)
	}
	if !slices.Equal(held, want) {
		j.Fatalf("held are %d, not %d", held, want)
	}
	if l := m.All(); l[0] != 7 || l[len(l)-1] != 7 {
		j.Fatal("a cell beside the rings has changed")
	}
}

// answer is what was given to a walk.
type answer struct {
	v   uint64
	won bool
}

// hand is a worker. As a walk hangs on what it was given alone (R6), it can be made again from that.
type hand struct {
	calls string // those to come, behind the one under way
	under call
	given []answer
}

// moment is all that the next steps, and what is right of them, hang on.
type moment struct {
	cells []uint64
	hands []hand
	task  uint64 // of the next push
	left  [][]uint64
}

func (m moment) copied() moment {
	return moment{slices.Clone(m.cells), slices.Clone(m.hands), m.task, slices.Clone(m.left)}
}

// next makes a hand begin its next call.
func (m *moment) next(who int) {
	h := &m.hands[who]
	h.under, h.given = call{}, nil
	if h.calls == "" {
		return
	}
	h.under = begun(h.calls[0], m.task)
	h.calls = h.calls[1:]
	if h.under.kind == push {
		m.task++
	}
}

// play goes through all that can come of a moment, each moment once.
type play struct {
	judge
	seen map[string]bool
	ends int
}

func (p *play) walk(m moment, who int) *walk.Walk {
	w := p.judge.walk(who, m.hands[who].under)
	for _, g := range m.hands[who].given {
		w.Give(g.v, g.won)
	}
	return w
}

// from goes on from a moment by each worker's next step.
func (p *play) from(m moment) {
	key := fmt.Sprint(m)
	if p.seen[key] {
		return
	}
	p.seen[key] = true
	p.lookAt(m)
	over := true
	for who, h := range m.hands {
		if h.under.kind != 0 {
			over = false
			c := m.copied()
			p.step(&c, who)
			p.from(c)
		}
	}
	if over {
		p.ends++
	}
}

func (p *play) lookAt(m moment) {
	var held []uint64
	var under []call
	for who, h := range m.hands {
		under = append(under, h.under)
		if h.under.kind != 0 {
			held = append(held, p.walk(m, who).Held()...)
		}
	}
	p.look(m.left, under, held, memory(p.T, m.cells...))
}

// step does one step of a worker, by a loom whose only worker that is.
func (p *play) step(m *moment, who int) {
	h := &m.hands[who]
	mem := memory(p.T, m.cells...)
	l, _ := loom.New(mem, 1)
	w := p.walk(*m, who)
	told(p.T, l.Start(0, w), api.Fine)
	a, _ := w.Want()
	was := m.cells[a.Cell]
	told(p.T, l.Pick(0), api.Fine)
	h.given = append(slices.Clone(h.given), answer{was, a.Kind != api.Cas || was == a.A})
	if len(h.given) > 40 {
		p.Fatalf("a call goes on and on: %+v", m)
	}
	m.cells = mem.All()
	p.did(m.left, who, &h.under, a, was)
	if r, ok := l.Result(0); ok {
		p.ended(m.left, who, h.under, r, mem)
		m.next(who)
	}
}

// start is the moment in which in[n] tasks are in the ring n, and calls are begun.
func (p *play) start(first uint64, in []int, calls ...string) moment {
	mem, left := p.memory(first, in...)
	m := moment{cells: mem.All(), task: 100, left: left}
	for who, c := range calls {
		m.hands = append(m.hands, hand{calls: c})
		m.next(who)
	}
	return m
}

// All orders of all steps of some workers, whose calls meet each other in every way.
func TestTogetherInAllOrders(t *testing.T) {
	kinds, most := map[string]int{}, map[string]int{}
	for _, c := range []struct {
		size  int
		first uint64
		in    []int
		calls []string
	}{
		{2, 0, []int{0, 0}, []string{"+-", "a"}},
		{2, all, []int{1, 0}, []string{"++-", "a"}},
		{2, 5, []int{2, 0}, []string{"+-+-", "aa"}},
		{2, 0, []int{2, 0}, []string{"+++-", "a-a"}},
		{2, turn - 1, []int{2, 0, 0}, []string{"-+", "a", "a"}},
		{2, all, []int{2, 0, 0}, []string{"+", "a", "a"}},
		{4, all - 1, []int{4, 0}, []string{"+-+", "a-"}},
		{4, turn - 2, []int{4, 1}, []string{"-+-", "a-"}},
		{4, 3, []int{3, 0}, []string{"---", "a"}},
		{4, 0, []int{2, 0}, []string{"++--", "aa"}},
		{4, all - 3, []int{4, 0, 0}, []string{"+", "a", "b"}},
		{4, 1, []int{3, 0, 0}, []string{"-", "a", "a"}},
		{4, all, []int{4, 3}, []string{"+b", "a"}},
		{4, all - 2, []int{2, 3}, []string{"b-", "a-"}},
		{4, 0, []int{2, 2, 2}, []string{"b", "c", "a"}},
		{4, all - 4, []int{4, 2, 0}, []string{"--", "a", "b"}},
		{8, all - 5, []int{8, 0}, []string{"+--", "a"}},
		{8, 0, []int{5, 4}, []string{"--", "a--"}},
		{8, 0, []int{7, 5}, []string{"b", "a"}},
	} {
		p := &play{judge: newJudge(t, len(c.calls), c.size), seen: map[string]bool{}}
		p.kinds, p.most = kinds, most
		p.from(p.start(c.first, c.in, c.calls...))
		if p.ends == 0 {
			t.Errorf("%+v never ends", c)
		}
	}
	var met []string
	for kind := range kinds {
		met = append(met, kind)
	}
	slices.Sort(met)
	if !slices.Equal(met, []string{"+0", "+4", "+8", "-0", "-5", "a0", "a4", "a5", "a8"}) {
		t.Error("what came of the calls:", kinds)
	}
	// Each of those that can be overtaken was: whoever finds a full ring, and is overtaken, finds room then, or somebody who steals.
	for kind, alone := range map[string]int{"+0": 4, "+8": 2, "-0": 4, "-5": 2, "a0": 15, "a8": 4, "a5": 4} {
		if most[kind] <= alone {
			t.Errorf("%s took %d steps at most", kind, most[kind])
		}
	}
}

// many are the workers of a loom, and what is left.
type many struct {
	judge
	*loom.Loom
	walks []*walk.Walk
	under []call
	task  uint64
	left  [][]uint64
	in    map[uint64]bool // pushed, and told Fine
	out   map[uint64]bool // come out
}

// Many workers on one loom, in drawn orders, over all places where counts go round.
func TestManyTogether(t *testing.T) {
	kinds := map[string]int{}
	for seed, first := range []uint64{0, round - 30, turn - 30} {
		for _, size := range []int{2, 4, 8, 32, 256} {
			for _, workers := range []int{2, 3, 16} {
				m := newMany(t, workers, size, first)
				m.kinds = kinds
				m.run(drawn(uint64(seed)))
			}
		}
	}
	if len(kinds) != 9 {
		t.Error(kinds)
	}
}

func newMany(t *testing.T, workers, size int, first uint64) *many {
	j := newJudge(t, workers, size)
	mem, left := j.memory(first, make([]int, workers)...)
	l, e := loom.New(mem, workers)
	told(t, e, api.Fine)
	return &many{judge: j, Loom: l, walks: make([]*walk.Walk, workers), under: make([]call, workers), left: left, in: map[uint64]bool{}, out: map[uint64]bool{}}
}

// run lets them push more often, then pop and steal more often, in turn; at last all is popped.
func (m *many) run(draw func(int) int) {
	for i := range 2500 {
		who := draw(m.Workers())
		if m.under[who].kind == 0 {
			m.begin(who, m.drawnKind(who, i/500%2*6+2, draw))
		}
		m.step(who)
	}
	for who := range m.Workers() {
		m.finish(who)
	}
	m.compare()
	for who := range m.Workers() {
		for n := len(m.left[who]); n >= 0; n-- {
			m.begin(who, pop)
			m.finish(who)
		}
	}
	m.compare()
	if len(m.in) != len(m.out) {
		m.Errorf("%d went in, %d came out", len(m.in), len(m.out))
	}
}

func (m *many) drawnKind(who, of int, draw func(int) int) byte {
	if draw(10) < of {
		return push
	}
	from := draw(m.Workers())
	if from == who {
		return pop
	}
	return byte('a' + from)
}

// compare looks, when no walk is under way, that what went in has come out, or is in one ring, once.
func (m *many) compare() {
	m.Helper()
	met := map[uint64]bool{}
	for task := range m.out {
		met[task] = true
	}
	for _, r := range m.rings {
		l, e := r.All(m.Mem())
		told(m.T, e, api.Fine)
		for _, task := range l {
			if met[task] {
				m.Fatalf("%d is met twice", task)
			}
			met[task] = true
		}
	}
	for task := range m.in {
		if !met[task] {
			m.Fatalf("%d is lost", task)
		}
	}
	if len(met) != len(m.in) {
		m.Fatalf("%d went in, %d are met", len(m.in), len(met))
	}
}

func (m *many) begin(who int, kind byte) {
	m.task++
	m.under[who] = begun(kind, m.task)
	m.walks[who] = m.walk(who, m.under[who])
	told(m.T, m.Start(who, m.walks[who]), api.Fine)
}

func (m *many) finish(who int) {
	m.Helper()
	for i := 0; m.under[who].kind != 0; i++ {
		if i > 600 {
			m.Fatal("a call goes on and on")
		}
		m.step(who)
	}
}

func (m *many) step(who int) {
	m.Helper()
	before := m.Mem().All()
	a, _ := m.walks[who].Want()
	told(m.T, m.Pick(who), api.Fine)
	c := &m.under[who]
	m.did(m.left, who, c, a, before[a.Cell])
	if r, ok := m.Result(who); ok {
		m.ended(m.left, who, *c, r, m.Mem())
		m.count(*c, r)
		*c = call{}
	}
	m.look(m.left, m.under, m.Held(), m.Mem())
}

// count notes what went in and came out, by what is told alone.
func (m *many) count(c call, r api.Result) {
	m.Helper()
	if c.kind == push && r.Code == api.Fine {
		m.in[c.task] = true
	}
	l := r.L
	if c.kind != push && r.Code == api.Fine {
		l = some(r.V)
	}
	for _, task := range l {
		if m.out[task] || !m.in[task] {
			m.Fatalf("%d comes out twice, or never went in", task)
		}
		m.out[task] = true
	}
}

// The chapter's example, and what the cells are then.
func TestFour(t *testing.T) {
	r, target := ring.Row{At: 0, Size: 4}, ring.Row{At: 6, Size: 4}
	m := filled(t, 12, 0)
	l, _ := loom.New(m, 2)
	for _, c := range []struct {
		who int
		w   *walk.Walk
		end api.Result
	}{
		{0, r.Push(1), api.Result{}},
		{0, r.Push(2), api.Result{}},
		{0, r.Push(3), api.Result{}},
		{0, r.Push(4), api.Result{}},
		{0, r.Push(5), api.Result{Code: api.Full, L: some(1, 2)}},
		{1, r.Steal(target), api.Result{V: 3}},
		{0, r.Pop(), api.Result{V: 4}},
		{0, r.Pop(), api.Result{Code: api.Empty}},
		{1, r.Steal(target), api.Result{Code: api.Empty}},
		{1, target.Pop(), api.Result{Code: api.Empty}},
	} {
		told(t, l.Start(c.who, c.w), api.Fine)
		if _, e := l.Alone(c.who, 10); e != api.Fine {
			t.Fatal(e)
		}
		isEnded(t, c.w, c.end)
	}
	isCells(t, m, 4<<32+4, 4, 1, 2, 3, 4, 0, 0, 0, 0, 0, 0)
	if l.Steps() != 4*4+5+8+4+2+4+2 {
		t.Error("so many steps were done:", l.Steps())
	}
}
