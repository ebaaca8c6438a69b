package arena_test

import (
	"fmt"
	"slices"
	"testing"

	"coachyard/api"
	"coachyard/arena"
	"coachyard/cells"
	"coachyard/loom"
	"coachyard/walk"
)

// P6.4

const (
	take = 't'
	back = 'p' // of the node that was taken first
	last = 'l' // back with the node that was taken last
)

// answer is what was given to a walk.
type answer struct {
	v   uint64
	won bool
}

// hand is a worker who takes and puts back what it took. As a walk hangs on what it was given alone (R6), it can be made again from that.
type hand struct {
	calls string // those to come, the one under way among them
	given []answer
	has   []int // nodes that it took, and hasn't put back
}

// moment is all that the next steps hang on.
type moment struct {
	cells []uint64
	hands []hand
}

// next tells the call under way, or '-': one that has nothing to put back leaves that call out.
func (h *hand) next() byte {
	for h.calls != "" {
		if h.calls[0] == take || len(h.has) > 0 {
			return h.calls[0]
		}
		h.calls = h.calls[1:]
	}
	return '-'
}

// puts tells the place in has of the node that is put back.
func (h *hand) puts() int {
	if h.next() == last {
		return len(h.has) - 1
	}
	return 0
}

func (h *hand) walk(a arena.Arena) *walk.Walk {
	w := a.Take()
	if h.next() != take {
		w = a.Put(h.has[h.puts()])
	}
	for _, g := range h.given {
		w.Give(g.v, g.won)
	}
	return w
}

func (m moment) copied() moment {
	c := moment{slices.Clone(m.cells), slices.Clone(m.hands)}
	for i, h := range m.hands {
		c.hands[i].given, c.hands[i].has = slices.Clone(h.given), slices.Clone(h.has)
	}
	return c
}

// play goes through all that can come of a moment, each moment once.
type play struct {
	*testing.T
	arena.Arena
	seen  map[string]bool
	noMem int
	ends  int
}

// from goes on from a moment by each worker's next step.
func (p *play) from(m moment) {
	key := fmt.Sprint(m)
	if p.seen[key] {
		return
	}
	p.seen[key] = true
	p.look(m)
	over := true
	for who := range m.hands {
		if m.hands[who].next() != '-' {
			over = false
			c := m.copied()
			p.step(&c, who)
			p.from(c)
		}
	}
	if over {
		p.ends++
	}
}

// step does one step of a worker, by a loom whose only worker that is.
func (p *play) step(m *moment, who int) {
	h := &m.hands[who]
	mem := memory(p.T, m.cells...)
	l, _ := loom.New(mem, 1)
	w := h.walk(p.Arena)
	told(p.T, l.Start(0, w), api.Fine)
	a, _ := w.Want()
	was := m.cells[max(0, min(a.Cell, len(m.cells)-1))]
	told(p.T, l.Pick(0), api.Fine)
	h.given = append(h.given, answer{was, a.Kind != api.Cas || was == a.A})
	// A step is lost only where another one's call has ended, and there are few of these.
	if len(h.given) > 40 {
		p.Fatalf("a call goes on and on: %+v", m)
	}
	m.cells = mem.All()
	if r, ok := l.Result(0); ok {
		p.ended(h, r, mem)
	}
}

func (p *play) ended(h *hand, r api.Result, mem *cells.Mem) {
	call := h.next()
	switch {
	case call != take && r.Code == api.Fine:
		h.has = slices.Delete(h.has, h.puts(), h.puts()+1)
	case call == take && r.Code == api.Fine:
		h.has = append(h.has, int(r.V))
	case call == take && r.Code == api.NoMem:
		p.noMem++
		isFree(p.T, p.Arena, mem)
	default:
		p.Fatalf("%c ended with %+v", call, r)
	}
	h.calls, h.given = h.calls[1:], nil
}

// look sees that each node is at one place: free, or taken by one worker, who has it till it is put back.
func (p *play) look(m moment) {
	nodes, e := p.Free(memory(p.T, m.cells...))
	told(p.T, e, api.Fine)
	for _, h := range m.hands {
		nodes = append(nodes, h.has...)
	}
	slices.Sort(nodes)
	if !slices.Equal(nodes, numbers(1, p.N)) {
		p.Fatalf("the nodes %v are free or taken: %+v", nodes, m)
	}
}

// start is the moment in which the nodes from first on are free, and the others are the first worker's.
func (p *play) start(first int, tag uint32, calls ...string) moment {
	mem := filled(p.T, p.At+p.N+1, 7)
	told(p.T, p.Init(mem, first), api.Fine)
	l := mem.All()
	l[p.At] = pair(tag, uint32(l[p.At]))
	m := moment{cells: l}
	for i, c := range calls {
		h := hand{calls: c}
		if i == 0 {
			h.has = numbers(1, first-1)
		}
		m.hands = append(m.hands, h)
	}
	return m
}

// All orders of all steps of some workers, whose calls meet each other in every way.
func TestTogetherInAllOrders(t *testing.T) {
	for _, c := range []struct {
		n, first int
		tag      uint32
		calls    []string
		short    bool // fewer nodes than may be wanted: some Take tells NoMem
	}{
		{1, 1, 0, []string{"tp", "tp", "tp"}, true},
		{1, 2, 5, []string{"pt", "tp", "t"}, true},
		{2, 1, 0, []string{"tptp", "tptp"}, false},
		{2, 1, top - 2, []string{"ttlp", "tp"}, true},
		{2, 3, top, []string{"pp", "tp", "t"}, true},
		{2, 2, 1, []string{"ptl", "ttp"}, true},
		{3, 1, top - 1, []string{"t", "ttp", "t"}, true},
		{3, 1, 0, []string{"tp", "ttpp"}, false},
		{3, 1, 0, []string{"tp", "tp", "tp"}, false},
		{2, 1, 0, []string{"tp", "ttlp", "t"}, true},
		{3, 3, 9, []string{"pl", "t", "t"}, true},
		{3, 4, 0, []string{"plp", "tp"}, true},
		{4, 1, 0, []string{"tp", "t", "t", "t"}, false},
	} {
		p := &play{T: t, Arena: arena.Arena{At: 2, N: c.n}, seen: map[string]bool{}}
		p.from(p.start(c.first, c.tag, c.calls...))
		if p.ends == 0 || p.noMem > 0 != c.short {
			t.Errorf("%+v: %d ends, %d without a node", c, p.ends, p.noMem)
		}
	}
}

// drawn tells numbers that look like drawn ones, the same ones each time.
func drawn(seed uint64) func(n int) int {
	return func(n int) int {
		seed = seed*6364136223846793005 + 1442695040888963407
		return int(seed >> 33 % uint64(n))
	}
}

// Many workers on one loom, in drawn orders: what each one has is its own, and at last all nodes are free again.
func TestManyTogether(t *testing.T) {
	for seed := range uint64(6) {
		for _, n := range []int{1, 2, 5, 40} {
			tryMany(t, arena.Arena{At: 3, N: n}, drawn(seed))
		}
	}
}

// many are the workers of a loom, and the nodes that each one has; what it puts back is the first of these.
type many struct {
	*testing.T
	arena.Arena
	*loom.Loom
	has   [][]int
	puts  []bool
	busy  []bool
	codes map[api.Code]int
}

func tryMany(t *testing.T, a arena.Arena, draw func(int) int) {
	mem := filled(t, a.At+a.N+1, 0)
	told(t, a.Init(mem, 1), api.Fine)
	mem.Do(api.Access{Kind: api.Or, Cell: a.At, A: pair(top-50, 0)})
	l, e := loom.New(mem, api.MaxWorkers)
	told(t, e, api.Fine)
	m := &many{t, a, l, make([][]int, l.Workers()), make([]bool, l.Workers()), make([]bool, l.Workers()), map[api.Code]int{}}
	for range 6000 {
		who := draw(l.Workers())
		if !m.busy[who] {
			m.begin(who, len(m.has[who]) > 0 && draw(3) > 0)
		}
		m.step(who)
	}
	for who := range l.Workers() {
		m.finish(who)
		for len(m.has[who]) > 0 {
			m.begin(who, true)
			m.finish(who)
		}
	}
	free, e := a.Free(mem)
	slices.Sort(free)
	if e != api.Fine || !slices.Equal(free, numbers(1, a.N)) {
		t.Error("at last are free", free, e)
	}
	if m.codes[api.Fine] == 0 || m.codes[api.NoMem] == 0 != (a.N == 40) {
		t.Error(a, m.codes)
	}
}

func (m *many) begin(who int, put bool) {
	w := m.Take()
	if put {
		w = m.Put(m.has[who][0])
	}
	m.puts[who], m.busy[who] = put, true
	told(m.T, m.Start(who, w), api.Fine)
}

// finish does the rest of the call under way alone: at most the two steps up to a Cas that is lost, and two more.
func (m *many) finish(who int) {
	m.Helper()
	for range 4 {
		if m.busy[who] {
			m.step(who)
		}
	}
	if m.busy[who] {
		m.Fatal("who is alone goes on and on")
	}
}

func (m *many) step(who int) {
	m.Helper()
	told(m.T, m.Pick(who), api.Fine)
	if l := m.Loom.Held(); len(l) != 0 {
		m.Fatal("held are", l)
	}
	r, ok := m.Loom.Result(who)
	if !ok {
		return
	}
	m.busy[who] = false
	m.codes[r.Code]++
	switch {
	case m.puts[who] && r.Code == api.Fine && r.V == 0:
		m.has[who] = m.has[who][1:]
	case !m.puts[who] && r.Code == api.Fine:
		m.has[who] = append(m.has[who], int(r.V))
	case !m.puts[who] && r.Code == api.NoMem && r.V == 0:
		isFree(m.T, m.Arena, m.Mem())
	default:
		m.Fatal(m.puts[who], r)
	}
	nodes, e := m.Free(m.Mem())
	told(m.T, e, api.Fine)
	nodes = slices.Concat(append(m.has, nodes)...)
	slices.Sort(nodes)
	if !slices.Equal(nodes, numbers(1, m.N)) {
		m.Fatalf("the nodes %v are free or taken", nodes)
	}
}

// The chapter's example.
func TestTwoNodes(t *testing.T) {
	a := arena.Arena{At: 0, N: 2}
	m := filled(t, 3, 0)
	told(t, a.Init(m, 1), api.Fine)
	l, _ := loom.New(m, 1)
	for _, want := range []api.Result{{V: 1}, {V: 2}, {Code: api.NoMem}, {Code: api.NoMem}} {
		told(t, l.Start(0, a.Take()), api.Fine)
		if _, e := l.Alone(0, 3); e != api.Fine {
			t.Fatal(e)
		}
		if r, ok := l.Result(0); !ok || r.Code != want.Code || r.V != want.V || len(r.L) != 0 {
			t.Error(r, ok, want)
		}
	}
	isCells(t, m, pair(2, 0), 2, 0)
	if l.Steps() != 8 {
		t.Error(l.Steps())
	}
}

// Two arenas in one memory, one behind the other, leave each other alone.
func TestTwoArenas(t *testing.T) {
	a, b := arena.Arena{At: 1, N: 2}, arena.Arena{At: 4, N: 2}
	m := filled(t, 8, 9)
	told(t, a.Init(m, 1), api.Fine)
	told(t, b.Init(m, 2), api.Fine)
	l, _ := loom.New(m, 4)
	for who, w := range []*walk.Walk{a.Take(), b.Take(), a.Take(), b.Put(1)} {
		told(t, l.Start(who, w), api.Fine)
	}
	for i := range 40 {
		l.Pick(i % 4)
	}
	for who, want := range []uint64{1, 2, 2, 0} {
		isEndedAt(t, l, who, want)
	}
	isFree(t, a, m)
	isFree(t, b, m, 1)
	isCells(t, m, 9, pair(2, 0), 2, 0, pair(2, 1), 0, 0, 9)
}

func isEndedAt(t *testing.T, l *loom.Loom, who int, v uint64) {
	t.Helper()
	if r, ok := l.Result(who); !ok || r.Code != api.Fine || r.V != v {
		t.Errorf("worker %d ended with %+v, %t, not with %d", who, r, ok, v)
	}
}
