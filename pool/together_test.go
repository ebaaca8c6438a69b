package pool_test

import (
	"encoding/binary"
	"fmt"
	"slices"
	"testing"

	"coachyard/api"
	"coachyard/cells"
	"coachyard/loom"
	"coachyard/pool"
	"coachyard/walk"
)

// P14.3

const (
	submit = 's'
	next   = 'n'
	parks  = 'k'
)

// answer is what was given to a walk.
type answer struct {
	v   uint64
	won bool
}

// hand is a worker. As a walk hangs on what it was given alone (R6), it can be made again from that.
type hand struct {
	calls  string // those to come, the one under way among them
	given  []answer
	waits  api.Access // a Wait that it wants
	alone  bool       // nobody else was at it since that one's first step
	begun  []uint64   // what the cells were then
	sleeps int        // how many were parked then, if nobody was searching
}

// moment is all that the next steps, and what is right of them, hang on.
type moment struct {
	cells   []uint64
	hands   []hand
	added   []uint64 // tasks whose Submit has ended Fine, or hasn't ended
	refused []uint64
	taken   []uint64
}

func (m moment) copied() moment {
	c := moment{slices.Clone(m.cells), slices.Clone(m.hands), slices.Clone(m.added), slices.Clone(m.refused), slices.Clone(m.taken)}
	for i, h := range m.hands {
		c.hands[i].given = slices.Clone(h.given)
	}
	return c
}

// key tells moments that can be told from each other.
func (m moment) key() string {
	var b []byte
	words := func(l []uint64) {
		b = binary.AppendUvarint(b, uint64(len(l)))
		for _, v := range l {
			b = binary.AppendUvarint(b, v)
		}
	}
	words(m.cells)
	words(m.added)
	words(m.refused)
	words(m.taken)
	for _, h := range m.hands {
		b = append(b, byte(len(h.calls)), byte(len(h.given)), byte(h.sleeps))
		for _, g := range h.given {
			b = binary.AppendUvarint(b, g.v)
			b = fmt.Appendf(b, "%t", g.won)
		}
		if b = fmt.Appendf(b, "%t", h.alone); h.alone {
			words(h.begun)
		}
	}
	return string(b)
}

func (m moment) parked(who int) bool {
	h := m.hands[who]
	return len(h.given) > 0 && h.waits.Kind == api.Wait && m.cells[h.waits.Cell] == h.waits.A
}

// parkedOnes tells how many are.
func (m moment) parkedOnes() int {
	n := 0
	for who := range m.hands {
		if m.parked(who) {
			n++
		}
	}
	return n
}

// quiet tells whether nobody but who is in the midst of a call, unless that one is parked.
func (m moment) quiet(who int) bool {
	for i, h := range m.hands {
		if i != who && len(h.given) > 0 && !m.parked(i) {
			return false
		}
	}
	return true
}

// play goes through all that can come of a moment, each moment once.
type play struct {
	*testing.T
	*pool.Pool
	seen map[string]bool
	met  map[string]bool // which call has ended how
	ends int
}

func (p *play) walkOf(who int, calls string) *walk.Walk {
	switch calls[0] {
	case submit:
		return p.Submit(who, taskOf(who, calls))
	case next:
		return p.Next(who, []int{p.Plan().Config().Workers - 1 - who})
	}
	return p.Park(who)
}

// taskOf is another one for each Submit.
func taskOf(who int, calls string) uint64 {
	return uint64(100*(1+who) + len(calls))
}

// from goes on from a moment by each worker's next step.
func (p *play) from(m moment) {
	key := m.key()
	if p.seen[key] {
		return
	}
	p.seen[key] = true
	p.nothingTwice(m)
	over := true
	for who, h := range m.hands {
		if h.calls != "" && !m.parked(who) {
			over = false
			c := m.copied()
			p.step(&c, who)
			p.from(c)
		}
	}
	if m.quiet(-1) {
		p.isAtRest(m)
	}
	if over {
		p.ends++
	}
}

// step does one step of a worker, by a loom whose only worker that is.
func (p *play) step(m *moment, who int) {
	h := &m.hands[who]
	if len(h.given) == 0 {
		p.begin(m, who)
	}
	for i := range m.hands {
		m.hands[i].alone = m.hands[i].alone && i == who
	}
	w := p.walkOf(who, h.calls)
	for _, g := range h.given {
		w.Give(g.v, g.won)
	}
	mem := memory(p.T, m.cells...)
	l, _ := loom.New(mem, 1)
	l.Start(0, w)
	a, _ := w.Want()
	was := m.cells[a.Cell]
	if e := l.Pick(0); e != api.Fine {
		p.Fatalf("told %d", e)
	}
	h.given = append(h.given, answer{was, a.Kind != api.Cas || was == a.A})
	if len(h.given) > 120 {
		p.Fatalf("a call goes on and on: %+v", m)
	}
	m.cells = mem.All()
	h.waits, _ = w.Want()
	if r, ok := l.Result(0); ok {
		p.ended(m, who, r)
		*h = hand{calls: h.calls[1:]}
	}
}

func (p *play) begin(m *moment, who int) {
	h := &m.hands[who]
	h.alone, h.begun = m.quiet(who), slices.Clone(m.cells)
	if m.cells[0] < round {
		h.sleeps = m.parkedOnes()
	}
	if h.calls[0] == submit {
		m.added = append(m.added, taskOf(who, h.calls))
		slices.Sort(m.added)
	}
}

// ended looks whether a call, whose last step was done just now, may tell that.
func (p *play) ended(m *moment, who int, r api.Result) {
	p.Helper()
	h := m.hands[who]
	p.met[fmt.Sprintf("%c%d%t", h.calls[0], r.Code, h.alone)] = true
	if len(r.L) != 0 || r.Code != api.Fine && r.V != 0 {
		p.Fatalf("told %+v", r)
	}
	switch h.calls[0] {
	case submit:
		p.submitted(m, h, r.Code, taskOf(who, h.calls))
	case next:
		p.nextTold(m, h, r)
	case parks:
		p.met[fmt.Sprintf("k V%d", r.V)] = true
		if r.Code != api.Fine || r.V > 1 {
			p.Fatalf("told %+v", r)
		}
	}
}

func (p *play) submitted(m *moment, h hand, code api.Code, v uint64) {
	p.Helper()
	if code != api.Fine {
		m.added = without(m.added, v)
		m.refused = append(m.refused, v)
		slices.Sort(m.refused)
	}
	if !h.alone {
		return
	}
	was, is := p.in(h.begun), p.in(m.cells)
	switch {
	case code == api.Full:
		if !slices.Equal(was, is) || m.cells[0] != h.begun[0] {
			p.Fatalf("it was full, and %d became %d", was, is)
		}
	case code != api.Fine || !slices.Equal(without(is, v), was) || len(is) == len(was):
		p.Fatalf("told %d, and %d became %d by %d", code, was, is, v)
	case h.sleeps > 0 && m.parkedOnes() != h.sleeps-1:
		p.Fatalf("of %d who were parked %d are", h.sleeps, m.parkedOnes())
	case h.sleeps > 0:
		p.met["woken"] = true
	}
}

func (p *play) nextTold(m *moment, h hand, r api.Result) {
	p.Helper()
	if r.Code != api.Fine && r.Code != api.Empty {
		p.Fatalf("told %+v", r)
	}
	if r.Code == api.Fine {
		if !slices.Contains(m.added, r.V) || slices.Contains(m.taken, r.V) {
			p.Fatalf("told %d, where %d were added, and %d taken", r.V, m.added, m.taken)
		}
		m.taken = append(m.taken, r.V)
		slices.Sort(m.taken)
	}
	if !h.alone {
		return
	}
	was, is := p.in(h.begun), p.in(m.cells)
	if r.Code == api.Empty && len(was) > 0 || r.Code == api.Fine && (!slices.Equal(without(was, r.V), is) || len(is) == len(was)) {
		p.Fatalf("told %+v, and %d became %d", r, was, is)
	}
}

// in tells what is in the pool, rising.
func (p *play) in(words []uint64) []uint64 {
	p.Helper()
	l, e := p.All(memory(p.T, words...))
	if e != api.Fine {
		p.Fatalf("told %d of %#x", e, words)
	}
	slices.Sort(l)
	return l
}

// without tells a list without a task.
func without(l []uint64, v uint64) []uint64 {
	return slices.DeleteFunc(slices.Clone(l), func(x uint64) bool { return x == v })
}

// nothingTwice looks whether no more is there than was added, and not taken.
func (p *play) nothingTwice(m moment) {
	p.Helper()
	l, e := p.All(memory(p.T, m.cells...))
	if e != api.Fine {
		p.Fatalf("told %d of %#x", e, m.cells)
	}
	for i, v := range l {
		if slices.Contains(l[:i], v) || !slices.Contains(m.added, v) || slices.Contains(m.taken, v) {
			p.Fatalf("in it are %d, where %d were added, and %d taken", l, m.added, m.taken)
		}
	}
}

// isAtRest looks what is there when nobody is at it, but who is parked.
func (p *play) isAtRest(m moment) {
	p.Helper()
	in := p.in(m.cells)
	left := m.added
	for _, v := range m.taken {
		left = without(left, v)
	}
	if !slices.Equal(in, left) {
		p.Fatalf("in it are %d, where %d were added, and %d taken", in, m.added, m.taken)
	}
	searching, sleepers, _ := p.Plan().Yard().Look(memory(p.T, m.cells...))
	for who := range m.hands {
		_, means, _ := p.Plan().Spot(who).Look(memory(p.T, m.cells...))
		if m.parked(who) != means || m.parked(who) != slices.Contains(sleepers, who) {
			p.Fatalf("%d is parked: %t, means to wait: %t; idle are %d", who, m.parked(who), means, sleepers)
		}
	}
	if searching != 0 || m.parkedOnes() == len(m.hands) && len(in) > 0 {
		p.Fatalf("%d are searching, %d are parked, and in it are %d", searching, sleepers, in)
	}
	if m.parkedOnes() == len(m.hands) {
		p.met["all are parked"] = true
	}
}

// allOrders goes through all orders of the steps of some hands, over cells in which some tasks are.
func (p *play) allOrders(m *cells.Mem, calls ...string) {
	p.Helper()
	p.seen = map[string]bool{}
	p.ends = 0
	first := moment{cells: m.All(), added: p.in(m.All())}
	for _, c := range calls {
		first.hands = append(first.hands, hand{calls: c})
	}
	p.from(first)
	if p.ends == 0 {
		p.Errorf("%q never end", calls)
	}
}

// All orders of all steps of a few calls.
func TestAllOrders(t *testing.T) {
	for kind := range 2 {
		met := map[string]bool{}
		for _, c := range []struct {
			nodes, queued int
			in            []int
			calls         []string
		}{
			{3, 0, nil, []string{"s", "n"}},
			{3, 0, nil, []string{"sn", "nn"}},
			{3, 0, nil, []string{"ss", "k"}},
			{3, 0, nil, []string{"sk", "k"}},
			{3, 0, nil, []string{"sk", "nk"}},
			{3, 0, nil, []string{"kk", "ss"}},
			{3, 1, nil, []string{"n", "n"}},
			{3, 0, []int{2}, []string{"s", "n"}},
			{3, 0, []int{2}, []string{"n", "n"}},
			{2, 1, []int{2}, []string{"s", "n"}},
			{2, 1, []int{2, 2}, []string{"s", "s"}},
			{3, 1, []int{2, 1}, []string{"s", "s"}},
			{2, 0, []int{1}, []string{"nk", "nk"}},
			{2, 1, nil, []string{"nk", "k"}},
			{2, 0, []int{1, 1}, []string{"nk", "k"}},
			{2, 0, nil, []string{"s", "n", "k"}},
			{2, 0, []int{2}, []string{"k", "n"}},
			{2, 0, []int{1}, []string{"", "n", "n"}},
			{2, 0, []int{0, 2}, []string{"s", "", "n"}},
			{2, 0, nil, []string{"s", "k", "k"}},
			{2, 1, []int{2}, []string{"k", "nk"}},
		} {
			p := poolOf(t, api.Config{Workers: len(c.calls), Kind: kind, Size: 2, Nodes: c.nodes})
			m, _ := filled(t, p, c.queued, c.in)
			one := &play{T: t, Pool: p, met: met}
			one.allOrders(m, c.calls...)
		}
		isMet(t, met, []string{"all are parked", "k V0", "k V1", "k0false", "k0true", "n0false", "n0true", "n5false", "n5true", "s0false", "s0true", "s4false", "s4true", "woken"})
	}
}

// A ring of four that gives two to the queue, or takes them back, while others steal.
func TestAllOrdersOfGreaterRings(t *testing.T) {
	met := map[string]bool{}
	for _, c := range []struct {
		nodes, queued int
		in            []int
		calls         []string
	}{
		{4, 0, []int{4}, []string{"s", "n"}},
		{3, 0, []int{4}, []string{"s", "n"}},
		{2, 0, []int{4}, []string{"s", "n"}},
		{2, 1, []int{4}, []string{"s", "n"}},
		{5, 3, []int{3}, []string{"ss", "n"}},
		{2, 1, []int{4, 2}, []string{"s", "s"}},
		{2, 0, []int{4}, []string{"s", "k"}},
		{2, 1, []int{4}, []string{"s", "", "n"}},
	} {
		p := poolOf(t, api.Config{Workers: len(c.calls), Kind: api.Ring, Size: 4, Nodes: c.nodes})
		m, _ := filled(t, p, c.queued, c.in)
		one := &play{T: t, Pool: p, met: met}
		one.allOrders(m, c.calls...)
	}
	isMet(t, met, []string{"k V0", "k0false", "k0true", "n0false", "n0true", "s0false", "s0true", "s4false", "s4true"})
}

// crowd is a pool whose workers do drawn calls, picked in a drawn order; there is what was submitted, and hasn't been told.
type crowd struct {
	*testing.T
	*pool.Pool
	*loom.Loom
	calls  []api.Call
	begun  []bool
	there  map[uint64]bool
	number uint64
	told   int
}

func crowdOf(t *testing.T, c api.Config) *crowd {
	t.Helper()
	p := poolOf(t, c)
	l, e := loom.New(memoryOf(t, p), c.Workers)
	if e != api.Fine {
		t.Fatal(e)
	}
	return &crowd{T: t, Pool: p, Loom: l, calls: make([]api.Call, c.Workers), begun: make([]bool, c.Workers), there: map[uint64]bool{}}
}

func (c *crowd) begin(who int, call api.Call) {
	c.Helper()
	if call.Kind == api.Submit {
		c.number++
		call.Task = c.number
		c.there[call.Task] = true
	}
	if e := c.Start(who, c.Call(who, call)); e != api.Fine {
		c.Fatal(e)
	}
	c.calls[who], c.begun[who] = call, true
}

// pick does a step, if there is one, and looks what the worker was told.
func (c *crowd) pick(who int) {
	c.Helper()
	e := c.Pick(who)
	if e != api.Fine && e != api.Parked && e != api.Idle {
		c.Fatal(e)
	}
	r, ended := c.Result(who)
	if !c.begun[who] || !ended {
		return
	}
	c.begun[who] = false
	kind := c.calls[who].Kind
	switch {
	case kind == api.Submit && r.Code == api.Full:
		delete(c.there, c.calls[who].Task)
	case kind == api.Next && r.Code == api.Fine:
		if !c.there[r.V] {
			c.Fatalf("told %d, which isn't there", r.V)
		}
		delete(c.there, r.V)
		c.told++
	case r.Code != api.Fine && (kind != api.Next || r.Code != api.Empty):
		c.Fatalf("a call of the kind %d told %+v", kind, r)
	}
}

// settle goes on till all have ended, or are parked.
func (c *crowd) settle() {
	c.Helper()
	for range 100000 {
		if c.rests() {
			c.isAtRest()
			return
		}
		for who := range c.Workers() {
			c.pick(who)
		}
	}
	c.Fatal("it never rests")
}

func (c *crowd) rests() bool {
	for who := range c.Workers() {
		if c.Busy(who) && !c.Parked(who) {
			return false
		}
	}
	return true
}

func (c *crowd) isAtRest() {
	c.Helper()
	l, e := c.All(c.Mem())
	for i, v := range l {
		if !c.there[v] || slices.Contains(l[:i], v) {
			c.Fatalf("in it are %d", l)
		}
	}
	if e != api.Fine || len(l) != len(c.there) || len(c.Held()) != 0 {
		c.Fatalf("told %d: in it are %d, of %d; held are %d", e, len(l), len(c.there), c.Held())
	}
	searching, sleepers, _ := c.Plan().Yard().Look(c.Mem())
	for who := range c.Workers() {
		if c.Parked(who) != slices.Contains(sleepers, who) {
			c.Fatalf("%d is parked: %t; idle are %d", who, c.Parked(who), sleepers)
		}
	}
	if searching != 0 || len(sleepers) == c.Workers() && len(l) > 0 {
		c.Fatalf("%d are searching, %d are idle, and in it are %d", searching, sleepers, l)
	}
}

// Many workers, picked in drawn orders; now and then all of them come to rest.
func TestCrowds(t *testing.T) {
	for seed, config := range slices.Concat(few(), few(), few()) {
		c, draw := crowdOf(t, config), drawn(uint64(seed))
		for n := range 6000 {
			who := draw(config.Workers)
			if !c.Busy(who) {
				// In turn more is laid in, and more is taken.
				kind := 1 + min(draw(7)+n/1000%2*2, 7)/4
				// One is never parked, lest all be so for ever.
				if draw(8) == 0 && who > 0 {
					kind = api.Park
				}
				c.begin(who, api.Call{Kind: kind, Victims: anyVictims(config.Workers, draw)})
			}
			for range 1 + draw(9)/8*draw(20) {
				c.pick(who)
			}
			if draw(500) == 0 {
				c.settle()
			}
		}
		c.settle()
		if c.told < 50 {
			t.Errorf("%+v: just %d were told", config, c.told)
		}
	}
}

// Whoever is parked is woken as long as something is submitted; at the end all of it is taken, and all are parked.
func TestAllIsDone(t *testing.T) {
	for seed, config := range few() {
		if config.Workers == 1 {
			continue
		}
		c, draw := crowdOf(t, config), drawn(uint64(seed))
		// All but 0 take what they get, and are parked when they got nothing.
		empty := make([]bool, config.Workers)
		for n := 0; n < 20000 || c.parkedOnes() < config.Workers-1 || c.Busy(0); n++ {
			if n > 200000 {
				t.Fatalf("%+v: %d are parked, and there are %v", config, c.parkedOnes(), c.there)
			}
			who := draw(config.Workers)
			if c.Busy(who) {
				c.pick(who)
				continue
			}
			if who == 0 {
				if n < 20000 && draw(4) == 0 {
					c.begin(0, api.Call{Kind: api.Submit})
				}
				continue
			}
			r, ended := c.Result(who)
			empty[who] = ended && c.calls[who].Kind == api.Next && r.Code == api.Empty
			kind := api.Next
			if empty[who] {
				kind = api.Park
			}
			c.begin(who, api.Call{Kind: kind})
		}
		c.isAtRest()
		if len(c.there) > 0 || c.told < 50 {
			t.Errorf("%+v: there are %v, and %d were told", config, c.there, c.told)
		}
	}
}

func (c *crowd) parkedOnes() int {
	n := 0
	for who := range c.Workers() {
		if c.Parked(who) {
			n++
		}
	}
	return n
}

// One behind the other: each is alone, and gets all that is there.
func TestAlone(t *testing.T) {
	for seed, config := range few() {
		p, draw := poolOf(t, config), drawn(uint64(seed))
		m := memoryOf(t, p)
		full, empty := 0, 0
		var there []uint64
		for n := range 3000 {
			who, v := draw(config.Workers), uint64(n)
			if draw(10) < 3+n/300%2*4 {
				r := alone(t, m, p.Submit(who, v))
				switch {
				case r.Code == api.Full && len(there) >= config.Nodes-config.Size/2-1:
					full++
				case r.Code == api.Fine:
					there = append(there, v)
				default:
					t.Fatalf("%+v: told %+v, and there were %d", config, r, there)
				}
			} else {
				r := alone(t, m, p.Next(who, anyVictims(config.Workers, draw)))
				if r.Code == api.Empty && len(there) == 0 {
					empty++
				} else if r.Code != api.Fine || !slices.Contains(there, r.V) {
					t.Fatalf("%+v: told %+v, and there were %d", config, r, there)
				}
				there = without(there, r.V)
				if r.Code == api.Empty {
					there = nil
				}
			}
			l, e := p.All(m)
			slices.Sort(l)
			slices.Sort(there)
			if e != api.Fine || !slices.Equal(l, there) {
				t.Fatalf("told %d: in it are %d, not %d", e, l, there)
			}
		}
		if empty == 0 || full == 0 && config.Workers < 4 {
			t.Errorf("%+v: %d were full, %d empty", config, full, empty)
		}
	}
}

// A Submit that is refused leaves all cells but the row's as they were, of a deque these, too.
func TestFullChangesNothing(t *testing.T) {
	for _, c := range few() {
		p := poolOf(t, c)
		all := slices.Repeat([]int{c.Size}, c.Workers)
		for free := range min(c.Nodes, c.Size/2+1) {
			m, tasks := filled(t, p, c.Nodes-1-free, all)
			was := m.All()
			r := alone(t, m, p.Submit(c.Workers-1, 5))
			l, e := p.All(m)
			if c.Kind == api.Deque && free > 0 {
				if r.Code != api.Fine || len(l) != len(tasks)+1 {
					t.Errorf("%+v: told %+v with %d free nodes", c, r, free)
				}
				continue
			}
			slices.Sort(l)
			if r.Code != api.Full || e != api.Fine || !slices.Equal(l, tasks) || !slices.Equal(m.All()[:1+c.Workers], was[:1+c.Workers]) {
				t.Errorf("%+v: told %+v, %d, and %d became %d", c, r, e, tasks, l)
			}
			if c.Kind == api.Deque && !slices.Equal(m.All(), was) {
				t.Errorf("%+v: %#x became %#x", c, was, m.All())
			}
			isAll(t, p, m, reordered(c, tasks)...)
		}
	}
}

// reordered tells all tasks of a pool when the last row, which was full, has given and got back its half.
func reordered(c api.Config, tasks []uint64) []uint64 {
	if c.Kind == api.Deque {
		return tasks
	}
	before, row := tasks[:len(tasks)-c.Size], tasks[len(tasks)-c.Size:]
	return slices.Concat(before, row[c.Size/2:], row[:c.Size/2])
}

// The chapter's example: two workers, deques.
func TestSubmitNextNext(t *testing.T) {
	p := pair2(t, api.Deque)
	m := memoryOf(t, p)
	for i, w := range []*walk.Walk{p.Submit(0, 5), p.Next(1, nil), p.Next(1, nil)} {
		want := []api.Result{{}, {V: 5}, {Code: api.Empty}}[i]
		if r := alone(t, m, w); r.Code != want.Code || r.V != want.V || len(r.L) != 0 {
			t.Errorf("told %+v, not %+v", r, want)
		}
	}
}

// A Park is woken by a Submit.
func TestParkIsWoken(t *testing.T) {
	for kind := range 2 {
		c := crowdOf(t, api.Config{Workers: 3, Kind: kind, Size: 4, Nodes: 3})
		for who := 1; who < 3; who++ {
			c.begin(who, api.Call{Kind: api.Park})
			c.settle()
			if !c.Parked(who) {
				t.Fatalf("%d isn't parked", who)
			}
		}
		c.begin(0, api.Call{Kind: api.Submit})
		if _, e := c.Alone(0, 100); e != api.Fine {
			t.Fatal(e)
		}
		// The lowest one is called, and counts as searching, till it has seen that.
		if c.Parked(1) || !c.Parked(2) {
			t.Errorf("parked are 1: %t, 2: %t", c.Parked(1), c.Parked(2))
		}
		if n, who, _ := c.Plan().Yard().Look(c.Mem()); n != 1 || !slices.Equal(who, []int{2}) {
			t.Errorf("%d are searching, %d are idle", n, who)
		}
		c.settle()
		if r, ok := c.Result(1); !ok || r.Code != api.Fine || r.V != 1 {
			t.Errorf("it told %+v, %t", r, ok)
		}
		if n, who, _ := c.Plan().Yard().Look(c.Mem()); n != 0 || !slices.Equal(who, []int{2}) {
			t.Errorf("%d are searching, %d are idle", n, who)
		}
	}
}
