package park_test

import (
	"fmt"
	"slices"
	"testing"

	"coachyard/api"
	"coachyard/cells"
	"coachyard/loom"
	"coachyard/park"
	"coachyard/walk"
)

// P11.3

// Deeds, by letters.
const (
	prepare = 'p'
	giveUp  = 'g'
	waiting = 'w' // for another epoch than its last Prepare told
	call    = 'c'
	beside  = 'b' // it turns a bit of the cell that plays no part to 1
	back    = 'B' // and to 0
)

// answer is what was given to a walk.
type answer struct {
	v   uint64
	won bool
}

// hand is one who does some deeds. As a walk hangs on what it was given alone (R6), it can be made again from that.
type hand struct {
	deeds  string // those to come, the one under way among them
	given  []answer
	key    uint32 // what its last Prepare told
	called bool   // somebody has called behind that
	came   bool   // its Wait came to a Wait
}

func (h hand) walk(s park.Spot) *walk.Walk {
	w := h.begun(s)
	for _, g := range h.given {
		w.Give(g.v, g.won)
	}
	return w
}

func (h hand) begun(s park.Spot) *walk.Walk {
	switch h.deeds[0] {
	case prepare:
		return s.Prepare()
	case giveUp:
		return s.GiveUp()
	case waiting:
		return s.Wait(h.key)
	case call:
		return s.Call()
	case beside:
		return walk.Plain([]api.Access{{Kind: api.Or, Cell: s.At, A: 1 << 31}})
	}
	return walk.Plain([]api.Access{{Kind: api.And, Cell: s.At, A: ^uint64(1 << 31)}})
}

// by tells what comes of a deed that ends by a step with that state, by the chapter's words, and what the state is then.
func (h hand) by(s state) (state, uint64) {
	switch h.deeds[0] {
	case prepare:
		return s.meaning(true), s.epoch
	case giveUp:
		return s.meaning(false), s.epoch
	case call:
		if s.means {
			return s.called(), 1
		}
		return s.called(), 0
	case beside:
		u := s.cell()
		s.beside |= 1 << 30
		return s, u
	case back:
		u := s.cell()
		s.beside &^= 1 << 30
		return s, u
	}
	if h.came {
		return s.meaning(false), 1
	}
	return s.meaning(false), 0
}

// moment is all that the next steps hang on.
type moment struct {
	cell  uint64
	hands []hand
}

// play goes through all that can come of a moment, each moment once.
type play struct {
	*testing.T
	park.Spot
	seen map[string]bool
	came map[string]int // how often which deed has told what, and how often one was parked when nobody could go on
}

// from goes on from a moment by each hand's next step.
func (p *play) from(m moment) {
	p.Helper()
	key := fmt.Sprint(m)
	if p.seen[key] {
		return
	}
	p.seen[key] = true
	over, parked := true, false
	for who, h := range m.hands {
		if len(h.deeds) == 0 {
			continue
		}
		if h.deeds[0] == waiting {
			p.fate(m, h)
		}
		l := p.loomOf(m, h)
		if l.Parked(0) {
			parked = true
			p.staysParked(m, h, l)
			continue
		}
		over = false
		c := moment{hands: slices.Clone(m.hands)}
		c.cell = p.step(m, who, c.hands, l)
		p.from(c)
	}
	if over && parked {
		p.came["parked"]++
	}
	if over && !parked {
		p.came["over"]++
	}
}

// loomOf is a loom whose only worker does what the hand does.
func (p *play) loomOf(m moment, h hand) *loom.Loom {
	l, _ := loom.New(memory(p.T, m.cell), 1)
	told(p.T, l.Start(0, h.walk(p.Spot)), api.Fine)
	return l
}

// fate looks what comes of one who waits, if nobody else does anything any more.
func (p *play) fate(m moment, h hand) {
	p.Helper()
	l := p.loomOf(m, h)
	n, e := l.Alone(0, 50)
	if h.called && (n > 3 || e != api.Fine || l.Busy(0)) {
		p.Fatalf("it was called, but %d, %d behind %+v: %+v", n, e, h, m)
	}
	if !h.called && (n > 2 || e != api.Parked || !l.Parked(0)) {
		p.Fatalf("nobody called, but %d, %d behind %+v: %+v", n, e, h, m)
	}
}

func (p *play) staysParked(m moment, h hand, l *loom.Loom) {
	p.Helper()
	if h.called || h.deeds[0] != waiting {
		p.Fatalf("%+v is parked: %+v", h, m)
	}
	told(p.T, l.Pick(0), api.Parked)
	isCells(p.T, l.Mem(), m.cell)
}

// step does one step of a hand, and tells what the cell is then.
func (p *play) step(m moment, who int, hands []hand, l *loom.Loom) uint64 {
	p.Helper()
	h := m.hands[who]
	told(p.T, l.Pick(0), api.Fine)
	is := l.Mem().All()[0]
	if held := l.Held(); len(held) != 0 {
		p.Fatal("held are", held)
	}
	r, ok := l.Result(0)
	if !ok {
		if is != m.cell || h.deeds[0] != waiting {
			p.Fatalf("%+v turns %#x to %#x, and hasn't ended", h, m.cell, is)
		}
		h.goneOn(m.cell, l)
		hands[who] = h
		return is
	}
	s, v := h.by(stateOf(m.cell))
	if is != s.cell() || r.Code != api.Fine || r.V != v || h.deeds[0] == waiting && !h.called {
		p.Fatalf("%+v turns %#x to %#x, and tells %+v, not %#x and %d", h, m.cell, is, r, s.cell(), v)
	}
	p.note(h, r)
	if h.deeds[0] == call {
		for i := range hands {
			hands[i].called = true
		}
	}
	hands[who] = h.ended(r, hands[who].called)
	return is
}

func (p *play) note(h hand, r api.Result) {
	if h.deeds[0] == waiting || h.deeds[0] == call {
		p.came[fmt.Sprintf("%c%d", h.deeds[0], r.V)]++
	}
	p.came["steps"] = max(p.came["steps"], len(h.given)+1)
}

func (h *hand) goneOn(v uint64, l *loom.Loom) {
	h.given = append(slices.Clone(h.given), answer{v, true})
	if l.Parked(0) {
		h.came = true
	}
}

func (h hand) ended(r api.Result, called bool) hand {
	n := hand{deeds: h.deeds[1:], key: h.key, called: called}
	if h.deeds[0] == prepare {
		n.key, n.called = uint32(r.V), false
	}
	return n
}

// All orders of all steps of some, whose deeds meet each other in every way.
func TestTogetherInAllOrders(t *testing.T) {
	came := map[string]int{}
	for _, c := range []struct {
		cell  uint64
		hands []string
	}{
		{0, []string{"pw"}},
		{0, []string{"pw", "c"}},
		{pair(7, 0), []string{"pw", "cc"}},
		{pair(top, 0), []string{"pw", "c", "c"}},
		{pair(top-1, 0), []string{"pw", "cc", "c"}},
		{0, []string{"pwpw", "c", "c"}},
		{pair(top, 6), []string{"pwpw", "ccc"}},
		{pair(3, 0), []string{"pwg", "c", "bB"}},
		{pair(3, 0), []string{"pw", "c", "pgp"}},
		{pair(9, 1), []string{"pgpw", "cc", "bBb"}},
		{pair(1<<31-1, 0), []string{"pw", "pw", "c"}},
		{pair(1<<31, top), []string{"pw", "pw", "cc", "gp"}},
		{pair(5, 0), []string{"pwpw", "pwg", "ccc"}},
		{pair(5, 0), []string{"pw", "pw", "pw", "cbcB"}},
		{pair(top, 0), []string{"pw", "bBbBbB"}},
		{pair(top, 0), []string{"pw", "gpgp", "bB"}},
		{pair(2, 0), []string{"pww", "c"}},
	} {
		p := &play{T: t, seen: map[string]bool{}, came: came}
		m := moment{cell: c.cell}
		for _, deeds := range c.hands {
			m.hands = append(m.hands, hand{deeds: deeds})
		}
		p.from(m)
	}
	for _, what := range []string{"w0", "w1", "c0", "c1", "parked", "over"} {
		if came[what] == 0 {
			t.Error(what, came)
		}
	}
	// One was woken again and again by bits that play no part.
	if came["steps"] < 10 {
		t.Error("so many steps at most:", came["steps"])
	}
}

// sleeper waits till the cell 0 isn't 0 any more, and ends with what that is: it looks at it between preparing and waiting.
func sleeper(s park.Spot) *walk.Walk {
	return walk.New(func(w *walk.Walk) {
		var again func()
		again = func() {
			w.Into(s.Prepare(), func(p api.Result) {
				w.Ask(api.Access{Kind: api.Load, Cell: 0}, func(v uint64, _ bool) {
					if v != 0 {
						w.Into(s.GiveUp(), func(api.Result) { w.End(api.Result{V: v}) })
						return
					}
					w.Into(s.Wait(uint32(p.V)), func(api.Result) { again() })
				})
			})
		}
		again()
	})
}

// waker makes the cell 0 that, and calls.
func waker(s park.Spot, v uint64) *walk.Walk {
	return walk.New(func(w *walk.Walk) {
		w.Ask(api.Access{Kind: api.Store, Cell: 0, A: v}, func(uint64, bool) {
			w.Into(s.Call(), func(r api.Result) { w.End(r) })
		})
	})
}

// What is laid in ahead of a call isn't missed by one who looked behind preparing, whatever steps are picked.
func TestNoCallIsMissed(t *testing.T) {
	s := park.Spot{At: 1}
	for _, hi := range []uint32{0, 5, 1<<31 - 1, top - 1, top} {
		for _, wakers := range []int{1, 2} {
			ends, parked := 0, 0
			missNone(t, nil, func() *loom.Loom {
				l, _ := loom.New(memory(t, 0, pair(hi, 0)), 1+wakers)
				told(t, l.Start(0, sleeper(s)), api.Fine)
				for i := range wakers {
					told(t, l.Start(1+i, waker(s, uint64(i+1))), api.Fine)
				}
				return l
			}, &ends, &parked)
			if ends == 0 || parked == 0 {
				t.Error(ends, parked)
			}
		}
	}
}

// missNone does the picks, and goes on from there by each worker's next one.
func missNone(t *testing.T, picks []int, fresh func() *loom.Loom, ends, parked *int) {
	t.Helper()
	l := fresh()
	for _, who := range picks {
		told(t, l.Pick(who), api.Fine)
	}
	over := true
	for who := range l.Workers() {
		if l.Parked(who) {
			*parked++
		}
		if l.Busy(who) && !l.Parked(who) {
			over = false
			missNone(t, append(slices.Clone(picks), who), fresh, ends, parked)
		}
	}
	if !over {
		return
	}
	*ends++
	if r, ok := l.Result(0); !ok || r.V == 0 {
		t.Fatalf("behind %v it waits on: %v", picks, l.Mem().All())
	}
}

// A call that came ahead of the preparing is none.
func TestCalledAhead(t *testing.T) {
	s := park.Spot{At: 0}
	m := memory(t, 0)
	l, _ := loom.New(m, 2)
	alone(t, l, 1, s.Call(), 1, api.Result{})
	alone(t, l, 0, s.Prepare(), 1, api.Result{V: 1})
	told(t, l.Start(0, s.Wait(1)), api.Fine)
	for range 3 {
		if n, e := l.Alone(0, 50); n > 1 || e != api.Parked {
			t.Fatal(n, e)
		}
	}
	alone(t, l, 1, s.Call(), 1, api.Result{V: 1})
	if n, e := l.Alone(0, 50); n != 3 || e != api.Fine {
		t.Fatal(n, e)
	}
	looks(t, s, m, 2, false)
}

// Who was called 2^32 times can't tell it from never: the epoch is the same again. Once less, or more, is seen.
func TestRoundAndRound(t *testing.T) {
	s := park.Spot{At: 0}
	for _, hi := range epochs() {
		for _, ahead := range []uint32{top, 0, 1, 2, 1 << 31} {
			m := memory(t, pair(hi, 0))
			l, _ := loom.New(m, 1)
			alone(t, l, 0, s.Prepare(), 1, api.Result{V: uint64(hi)})
			m.Fill([]uint64{pair(hi+ahead, 1)})
			told(t, l.Start(0, s.Wait(hi)), api.Fine)
			n, e := l.Alone(0, 50)
			if ahead == 0 && (n != 1 || e != api.Parked) || ahead != 0 && (n != 2 || e != api.Fine) {
				t.Fatal(hi, ahead, n, e)
			}
		}
	}
}

// The chapter's example.
func TestCalled(t *testing.T) {
	s := park.Spot{At: 0}
	m := memory(t, 0)
	l, _ := loom.New(m, 2)
	alone(t, l, 0, s.Prepare(), 1, api.Result{})
	told(t, l.Start(0, s.Wait(0)), api.Fine)
	if n, e := l.Alone(0, 50); n != 1 || e != api.Parked {
		t.Fatal(n, e)
	}
	alone(t, l, 1, s.Call(), 1, api.Result{V: 1})
	if n, e := l.Alone(0, 50); n != 3 || e != api.Fine {
		t.Fatal(n, e)
	}
	if r, ok := l.Result(0); !ok || r.V != 1 {
		t.Fatal(r, ok)
	}
	looks(t, s, m, 1, false)
}

// And the document's sixth one: Prepare, Call, Wait.
func TestDoesNotWait(t *testing.T) {
	s := park.Spot{At: 0}
	m := memory(t, 0)
	l, _ := loom.New(m, 2)
	alone(t, l, 0, s.Prepare(), 1, api.Result{})
	alone(t, l, 1, s.Call(), 1, api.Result{V: 1})
	alone(t, l, 0, s.Wait(0), 2, api.Result{})
	looks(t, s, m, 1, false)
}

// drawn tells numbers that look like drawn ones, the same ones each time.
func drawn(seed uint64) func(n int) int {
	return func(n int) int {
		seed = seed*6364136223846793005 + 1442695040888963407
		return int(seed >> 33 % uint64(n))
	}
}

// many are the workers of a loom, each with a parker of its own, of whom each may call the others.
type many struct {
	*testing.T
	*loom.Loom
	walks  []*walk.Walk
	states []state
	hands  []hand // of whom only the first deed counts
	at     []int  // the parker at which each one is
	came   map[string]int
}

// Many workers on one loom, in drawn orders: each prepares and waits at its own parker, or calls one of the others.
func TestManyTogether(t *testing.T) {
	came := map[string]int{}
	for seed := range uint64(12) {
		for _, workers := range []int{2, 3, 7, 16} {
			m := newMany(t, workers)
			m.came = came
			draw := drawn(seed)
			for range 3000 {
				m.turn(draw)
			}
		}
	}
	for _, what := range []string{"w0", "w1", "c0", "c1", "p", "g", "parked"} {
		if came[what] < 100 {
			t.Error(what, came)
		}
	}
}

func newMany(t *testing.T, workers int) *many {
	mem, _ := cells.New(workers)
	l, e := loom.New(mem, workers)
	told(t, e, api.Fine)
	m := &many{T: t, Loom: l, walks: make([]*walk.Walk, workers), states: make([]state, workers), hands: make([]hand, workers), at: make([]int, workers)}
	for who := range workers {
		m.states[who].epoch = uint64(top - who)
	}
	mem.Fill(m.cells())
	return m
}

func (m *many) cells() []uint64 {
	var l []uint64
	for _, s := range m.states {
		l = append(l, s.cell())
	}
	return l
}

// turn lets a drawn worker begin something, if it has nothing to do, and do a step.
func (m *many) turn(draw func(int) int) {
	m.Helper()
	who := draw(m.Workers())
	if m.walks[who] == nil {
		m.begin(who, draw)
	}
	e := m.Pick(who)
	if h := m.hands[who]; e == api.Parked {
		m.came["parked"]++
		if h.deeds[0] != waiting || !h.came || h.called {
			m.Fatalf("%+v is parked", h)
		}
		return
	}
	told(m.T, e, api.Fine)
	m.stepped(who)
}

// begin lets a worker that has prepared wait, or give up, and one that hasn't prepare; now and then it calls instead.
func (m *many) begin(who int, draw func(int) int) {
	h := &m.hands[who]
	prepared := len(h.deeds) > 0 && h.deeds[0] == prepare
	m.at[who] = who
	// Worker 0 never waits: else all might.
	switch n := draw(4); {
	case n == 0 || who == 0:
		m.at[who] = draw(m.Workers())
		h.deeds = "c"
	case prepared && n == 1:
		h.deeds = "g"
	case prepared:
		h.deeds = "w"
	default:
		h.deeds = "p"
	}
	h.came = false
	m.walks[who] = h.begun(park.Spot{At: m.at[who]})
	told(m.T, m.Start(who, m.walks[who]), api.Fine)
}

// stepped looks what a step of a worker has done.
func (m *many) stepped(who int) {
	m.Helper()
	h, s := &m.hands[who], &m.states[m.at[who]]
	r, ok := m.Result(who)
	if !ok {
		h.came = h.came || m.Parked(who)
		isCells(m.T, m.Mem(), m.cells()...)
		return
	}
	is, v := h.by(*s)
	*s = is
	if r.Code != api.Fine || r.V != v || h.deeds[0] == waiting && !h.called {
		m.Fatalf("%+v tells %+v, not %d", h, r, v)
	}
	isCells(m.T, m.Mem(), m.cells()...)
	m.walks[who] = nil
	switch h.deeds[0] {
	case prepare:
		h.key, h.called = uint32(r.V), false
		m.came["p"]++
	case giveUp:
		m.came["g"]++
	case call:
		m.hands[m.at[who]].called = true
		fallthrough
	default:
		m.came[fmt.Sprintf("%c%d", h.deeds[0], r.V)]++
	}
}
