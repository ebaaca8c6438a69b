package local_test

import (
	"fmt"
	"slices"
	"testing"

	"coachyard/api"
	"coachyard/cells"
	"coachyard/local"
	"coachyard/loom"
	"coachyard/queue"
	"coachyard/walk"
)

// P13.3

const (
	push  = 'p'
	pop   = 'o'
	steal = 's'
	peek  = 'k'
)

// stand is where tasks are, and what may be done there.
type stand interface {
	walk(who int, kind byte, task uint64) *walk.Walk
	all(m *cells.Mem) ([]uint64, api.Code)
}

// rows are one a worker; all are at that of the worker 0, and steal into their own ones.
type rows []local.Row

func rowsOf(kind, size, workers int) rows {
	var l rows
	for who := range workers {
		l = append(l, local.Row{Kind: kind, At: 1 + who*(size+2), Size: size})
	}
	return l
}

func (l rows) walk(who int, kind byte, task uint64) *walk.Walk {
	switch kind {
	case push:
		return l[0].Push(task)
	case pop:
		return l[0].Pop()
	case steal:
		return l[0].Steal(l[who])
	}
	return l[0].Peek()
}

func (l rows) all(m *cells.Mem) ([]uint64, api.Code) {
	return l[0].All(m)
}

// line is a queue, from which one takes who pops, or steals.
type line struct{ queue.Line }

func (q line) walk(_ int, kind byte, task uint64) *walk.Walk {
	switch kind {
	case push:
		return q.Put(some(task))
	case pop, steal:
		return q.Take()
	}
	return local.Peek(q.Line)
}

func (q line) all(m *cells.Mem) ([]uint64, api.Code) {
	return q.All(m)
}

// answer is what was given to a walk.
type answer struct {
	v   uint64
	won bool
}

// hand is a worker. As a walk hangs on what it was given alone (R6), it can be made again from that.
type hand struct {
	calls string // those to come, the one under way among them
	given []answer
	alone bool // nobody else was at it since that one's first step
}

// moment is all that the next steps, and what is right of them, hang on.
type moment struct {
	cells []uint64
	hands []hand
}

func (m moment) copied() moment {
	c := moment{slices.Clone(m.cells), slices.Clone(m.hands)}
	for i, h := range m.hands {
		c.hands[i].given = slices.Clone(h.given)
	}
	return c
}

// quiet tells whether nobody but who is in the midst of a call.
func (m moment) quiet(who int) bool {
	for i, h := range m.hands {
		if i != who && len(h.given) > 0 {
			return false
		}
	}
	return true
}

// play goes through all that can come of a moment, each moment once.
type play struct {
	*testing.T
	stand
	seen map[string]bool
	met  map[string]bool // which call has ended how
	ends int
}

// from goes on from a moment by each worker's next step.
func (p *play) from(m moment) {
	key := fmt.Sprint(m)
	if p.seen[key] {
		return
	}
	p.seen[key] = true
	if m.quiet(-1) {
		p.peeksRight(memory(p.T, m.cells...))
	}
	over := true
	for who, h := range m.hands {
		if h.calls != "" {
			over = false
			c := m.copied()
			p.step(&c, who)
			p.from(c)
		}
	}
	if over {
		p.ends++
	}
}

// step does one step of a worker, by a loom whose only worker that is.
func (p *play) step(m *moment, who int) {
	h := &m.hands[who]
	if len(h.given) == 0 {
		h.alone = m.quiet(who)
	}
	for i := range m.hands {
		m.hands[i].alone = m.hands[i].alone && i == who
	}
	w := p.walk(who, h.calls[0], uint64(100*who+len(h.calls)))
	for _, g := range h.given {
		w.Give(g.v, g.won)
	}
	mem := memory(p.T, m.cells...)
	l, _ := loom.New(mem, 1)
	told(p.T, l.Start(0, w), api.Fine)
	a, _ := w.Want()
	was := m.cells[a.Cell]
	told(p.T, l.Pick(0), api.Fine)
	if h.calls[0] == peek {
		holds(p.T, w)
		isCells(p.T, mem, m.cells...)
	}
	h.given = append(h.given, answer{was, a.Kind != api.Cas || was == a.A})
	if len(h.given) > 40 {
		p.Fatalf("a call goes on and on: %+v", m)
	}
	m.cells = mem.All()
	if r, ok := l.Result(0); ok {
		p.ended(*h, r, mem)
		h.calls, h.given, h.alone = h.calls[1:], nil, false
	}
}

// ended looks whether a call, whose last step was done just now, may tell that.
func (p *play) ended(h hand, r api.Result, m *cells.Mem) {
	p.Helper()
	p.met[fmt.Sprintf("%c%d%t", h.calls[0], r.Code, h.alone)] = true
	switch {
	case h.calls[0] == push && r.Code == api.Fine && h.alone:
		// Whatever was there ahead of it: it is seen.
		if v := p.peeksRight(m); v != 1 {
			p.Fatalf("pushed, and a peek tells %d", v)
		}
	case h.calls[0] == peek:
		p.peeked(h, r, m)
	}
}

// peeked looks what a peek tells by what it has loaded, and by what was there.
func (p *play) peeked(h hand, r api.Result, m *cells.Mem) {
	p.Helper()
	if r.Code != api.Fine || r.V > 1 || len(r.L) != 0 || len(h.given) != 2 {
		p.Fatalf("a peek told %+v behind %d steps", r, len(h.given))
	}
	p.met[fmt.Sprintf("V%d", r.V)] = true
	first, end := h.given[0].v, h.given[1].v
	v := bit(loOf(end) != 0)
	l, isRow := p.stand.(rows)
	if isRow {
		v = bit(countOf(l[0].Kind, first, end) >= 1)
	}
	in, e := p.all(m)
	if r.V != v || e != api.Fine || h.alone && r.V != bit(len(in) > 0) {
		p.Fatalf("a peek that loaded %#x and %#x told %d, where in it are %d, %d", first, end, r.V, in, e)
	}
	// (A queue's node may come back behind another one, while one peeks.)
	if isRow && r.V == 0 && len(in) > 0 {
		p.Fatalf("a peek told that there is nothing, and in it are %d", in)
	}
}

// peeksRight looks whether one who is alone sees just what is there, and tells what that one saw.
func (p *play) peeksRight(m *cells.Mem) uint64 {
	p.Helper()
	was := m.All()
	l, _ := loom.New(m, 1)
	w := p.walk(0, peek, 0)
	told(p.T, l.Start(0, w), api.Fine)
	if n, e := l.Alone(0, 9); n != 2 || e != api.Fine {
		p.Fatalf("%d steps, %d", n, e)
	}
	in, e := p.all(m)
	told(p.T, e, api.Fine)
	isEnded(p.T, w, api.Result{V: bit(len(in) > 0)})
	isCells(p.T, m, was...)
	return bit(len(in) > 0)
}

// hands are some that have these calls to do.
func hands(calls ...string) []hand {
	var l []hand
	for _, c := range calls {
		l = append(l, hand{calls: c})
	}
	return l
}

// allOrders goes through all orders of the steps of some hands.
func (p *play) allOrders(cells []uint64, calls ...string) {
	p.Helper()
	p.seen = map[string]bool{}
	p.ends = 0
	p.from(moment{cells, hands(calls...)})
	if p.ends == 0 {
		p.Errorf("%q never end", calls)
	}
}

// laid are the cells of some rows, in the first of which are some tasks, from a number on.
func laid(l rows, first uint64, in int) []uint64 {
	r := l[len(l)-1]
	words := slices.Repeat(some(7), r.At+r.Size+3)
	for _, r := range l {
		words[r.At], words[r.At+1] = first, first
		if r.Kind == 1 {
			words[r.At], words[r.At+1] = pair(first, first), pair(9, first)
		}
	}
	words[l[0].At+1] += uint64(in)
	if l[0].Kind == 1 {
		words[l[0].At+1] %= round
	}
	return words
}

func sortedKeys(m map[string]bool) []string {
	var l []string
	for k := range m {
		l = append(l, k)
	}
	slices.Sort(l)
	return l
}

// All orders of all steps of those who peek, and of those who lay in and take, meanwhile.
func TestRowsInAllOrders(t *testing.T) {
	for kind := range 2 {
		p := &play{T: t, met: map[string]bool{}}
		top := []uint64{all, round - 1}[kind]
		for _, c := range []struct {
			size  int
			first uint64
			in    int
			calls []string
		}{
			{2, 0, 0, []string{"p", "k"}},
			{2, top, 0, []string{"po", "kk"}},
			{2, 5, 1, []string{"op", "k", "k"}},
			{2, 0, 0, []string{"pkok", "s"}},
			{2, top, 1, []string{"kpk", "s", "k"}},
			{2, top - 1, 2, []string{"pok", "kk", "s"}},
			{2, turn - 1, 1, []string{"opo", "sk", "k"}},
			{2, 7, 2, []string{"oo", "s", "k", "k"}},
			{4, top, 3, []string{"pk", "sk", "k"}},
			{4, 0, 4, []string{"pp", "s", "kk"}},
			{4, top - 1, 2, []string{"oo", "s", "k"}},
			{2, top, 2, []string{"k", "s", "s"}},
			{4, turn - 2, 4, []string{"p", "s", "sk"}},
		} {
			p.stand = rowsOf(kind, c.size, len(c.calls))
			p.allOrders(laid(p.stand.(rows), c.first, c.in), c.calls...)
		}
		want := []string{"V0", "V1", "k0false", "k0true", "o0false", "o0true", "o5false", "o5true", "p0false", "p0true", "p4false", "p4true", "s0false", "s0true", "s5false", "s5true"}
		want = append(want, [][]string{{"s6false"}, {"p8false", "s8false"}}[kind]...)
		slices.Sort(want)
		if l := sortedKeys(p.met); !slices.Equal(l, want) {
			t.Errorf("what came of the calls of the kind %d: %q", kind, l)
		}
	}
}

func TestQueueInAllOrders(t *testing.T) {
	p := &play{T: t, met: map[string]bool{}, stand: line{queue.Line{At: 1, N: 3}}}
	for _, calls := range [][]string{
		{"p", "k"},
		{"pk", "kp"},
		{"ppo", "k"},
		{"po", "s", "k"},
		{"pook", "pk"},
		{"ppp", "k", "s"},
		{"p", "p", "k"},
		{"popopo", "k"},
		{"pkp", "ss", "k"},
	} {
		m := memory(t, slices.Repeat(some(7), 14)...)
		told(t, queue.Line{At: 1, N: 3}.Init(m), api.Fine)
		p.allOrders(m.All(), calls...)
	}
	if l := sortedKeys(p.met); !slices.Equal(l, []string{"V0", "V1", "k0false", "k0true", "o0false", "o0true", "o5false", "o5true", "p0false", "p0true", "p7false", "p7true", "s0false", "s0true", "s5false", "s5true"}) {
		t.Errorf("what came of the calls: %q", l)
	}
}

// One who is alone at a row fills and empties it, over all places where counts go round; each step is looked at by a peek.
func TestAloneAtARow(t *testing.T) {
	for kind := range 2 {
		for _, size := range sizes() {
			for seed, first := range some(0, round-7, turn-7, [2]uint64{all - 7, round - 300}[kind]) {
				l := rowsOf(kind, size, 2)
				p := &play{T: t, met: map[string]bool{}, stand: l}
				m := memory(t, laid(l, first, 0)...)
				p.tryAlone(m, drawn(uint64(seed)), 3*size+60)
			}
		}
	}
}

func TestAloneAtAQueue(t *testing.T) {
	for _, n := range []int{2, 3, 4, 9, 100, 4096} {
		q := line{queue.Line{At: 2, N: n}}
		p := &play{T: t, met: map[string]bool{}, stand: q}
		m, _ := cells.New(3*n + 6)
		told(t, q.Init(m), api.Fine)
		p.tryAlone(m, drawn(uint64(n)), min(3*n+60, 300))
	}
}

// tryAlone does calls one behind the other: more often one lays in, then takes, in turn.
func (p *play) tryAlone(m *cells.Mem, draw func(int) int, times int) {
	p.Helper()
	l, _ := loom.New(m, 1)
	count := 0
	for i := range times {
		kind := byte([]rune{pop, steal}[draw(2)])
		if draw(10) < 2+i*3/times%2*6 {
			kind = push
		}
		w := p.walk(1, kind, uint64(i))
		told(p.T, l.Start(0, w), api.Fine)
		if _, e := l.Alone(0, 2000); e != api.Fine {
			p.Fatal(e)
		}
		r, _ := w.Result()
		in, _ := p.all(m)
		v := p.peeksRight(m)
		if kind == push && r.Code == api.Fine {
			count++
			if v != 1 || in[len(in)-1] != uint64(i) {
				p.Fatalf("pushed is %d, in it are %d, and a peek tells %d", i, in, v)
			}
		}
	}
	if count < 3 {
		p.Errorf("%d pushes in %d times", count, times)
	}
}

// The chapter's example, of either kind; and a queue's.
func TestPushPeekPopPeek(t *testing.T) {
	for _, s := range []stand{rowsOf(0, 2, 2), rowsOf(1, 2, 2), rowsOf(0, 256, 2), rowsOf(1, 256, 2), line{queue.Line{At: 0, N: 100}}} {
		m, _ := cells.New(600)
		if q, ok := s.(line); ok {
			told(t, q.Init(m), api.Fine)
		}
		l, _ := loom.New(m, 1)
		for i, c := range []struct {
			kind byte
			end  api.Result
		}{
			{peek, api.Result{}}, {push, api.Result{}}, {peek, api.Result{V: 1}}, {pop, api.Result{V: 5}}, {peek, api.Result{}},
			{pop, api.Result{Code: api.Empty}}, {peek, api.Result{}}, {push, api.Result{}}, {peek, api.Result{V: 1}}, {steal, api.Result{V: 5}}, {peek, api.Result{}},
			{steal, api.Result{Code: api.Empty}}, {peek, api.Result{}},
		} {
			w := s.walk(1, c.kind, 5)
			told(t, l.Start(0, w), api.Fine)
			if _, e := l.Alone(0, 40); e != api.Fine {
				t.Fatal(i, e)
			}
			isEnded(t, w, c.end)
		}
	}
}
