package idle_test

import (
	"fmt"
	"slices"
	"strings"
	"testing"

	"coachyard/api"
	"coachyard/cells"
	"coachyard/idle"
	"coachyard/loom"
	"coachyard/walk"
)

// P10.3

// judge holds what deeds do and tell against what they would if each one were done at once, by its last step.
type judge struct {
	*testing.T
	idle.Yard
	came map[string]int // how often which deed has ended how
	most map[byte]int   // and behind how many steps, at most
}

// stepped looks whether a step of d may make the cell that, of what it was; r is what d has ended with, if ok.
func (j *judge) stepped(d deed, steps int, was, is uint64, r api.Result, ok bool) {
	j.Helper()
	if !ok {
		if is != was {
			j.Fatalf("%+v turns %#x to %#x, and hasn't ended", d, was, is)
		}
		return
	}
	s, want := d.by(j.Workers, stateOf(was))
	if is != s.cell() || r.Code != want.Code || r.V != want.V || len(r.L) != 0 {
		j.Fatalf("%+v turns %#x to %#x, and tells %+v, not %#x and %+v", d, was, is, r, s.cell(), want)
	}
	j.came[fmt.Sprintf("%c%d", d.kind, r.Code)]++
	j.most[d.kind] = max(j.most[d.kind], steps)
}

// ledger is what deeds told that have ended, by the chapter's last promise: it knows nothing of the cell.
type ledger struct {
	searching int
	slept     [16]int // how often each one slept
	woken     [16]int // and was left, or chosen
}

func (b *ledger) note(d deed, r api.Result) {
	if r.Code != api.Fine {
		return
	}
	switch d.kind {
	case sleep:
		b.slept[d.i]++
	case leave:
		b.woken[d.i]++
	case search:
		b.searching++
	case found:
		b.searching--
	case choose:
		b.searching++
		b.woken[r.V]++
	}
}

// isIn looks, when nobody is under way, that the cell tells as many as the deeds did, and that nobody was woken of one sleep twice.
func (b *ledger) isIn(j *judge, m *cells.Mem, before int) {
	j.Helper()
	n, l, e := j.Look(m)
	if e != api.Fine || n != before+b.searching {
		j.Fatalf("%d are searching, %d, not %d", n, e, before+b.searching)
	}
	for i := range j.Workers {
		if isIdle := slices.Contains(l, i); b.woken[i] > b.slept[i] || b.woken[i] == b.slept[i] && isIdle || b.slept[i] > 0 && b.woken[i] == 0 && !isIdle {
			j.Fatalf("%d slept %d times, was woken %d times, is idle: %t", i, b.slept[i], b.woken[i], isIdle)
		}
	}
}

// answer is what was given to a walk.
type answer struct {
	v   uint64
	won bool
}

// hand is one who does some deeds. As a walk hangs on what it was given alone (R6), it can be made again from that.
type hand struct {
	deeds []deed // those to come, the one under way among them
	given []answer
}

// moment is all that the next steps hang on.
type moment struct {
	cell  uint64
	hands []hand
	told  ledger
}

// play goes through all that can come of a moment, each moment once.
type play struct {
	judge
	seen   map[string]bool
	before int // so many were searching at first
	ends   int
}

// from goes on from a moment by each hand's next step.
func (p *play) from(m moment) {
	p.Helper()
	key := fmt.Sprint(m)
	if p.seen[key] {
		return
	}
	p.seen[key] = true
	over := true
	for who, h := range m.hands {
		if len(h.deeds) > 0 {
			over = false
			c := m
			c.hands = slices.Clone(m.hands)
			p.step(&c, who)
			p.from(c)
		}
	}
	if !slices.ContainsFunc(m.hands, func(h hand) bool { return len(h.given) > 0 }) {
		m.told.isIn(&p.judge, memory(p.T, m.cell), p.before)
	}
	if over {
		p.ends++
	}
}

// step does one step of a hand, by a loom whose only worker that is.
func (p *play) step(m *moment, who int) {
	p.Helper()
	h := &m.hands[who]
	d := h.deeds[0]
	mem := memory(p.T, m.cell)
	l, _ := loom.New(mem, 1)
	w := d.walk(p.Yard)
	for _, g := range h.given {
		w.Give(g.v, g.won)
	}
	told(p.T, l.Start(0, w), api.Fine)
	a, _ := w.Want()
	told(p.T, l.Pick(0), api.Fine)
	h.given = append(slices.Clone(h.given), answer{m.cell, a.Kind != api.Cas || m.cell == a.A})
	if len(h.given) > 20 {
		p.Fatalf("a deed goes on and on: %+v", m)
	}
	is := mem.All()[0]
	r, ok := l.Result(0)
	p.stepped(d, len(h.given), m.cell, is, r, ok)
	m.cell = is
	if ok {
		m.told.note(d, r)
		h.deeds, h.given = h.deeds[1:], nil
	}
}

// read tells deeds by lines such as "s0 c f1".
func read(line string) []deed {
	var l []deed
	for _, s := range strings.Fields(line) {
		d := deed{kind: s[0]}
		if len(s) > 1 {
			d.i = int(s[1] - '0')
		}
		l = append(l, d)
	}
	return l
}

// All orders of all steps of some, whose deeds meet each other in every way.
func TestTogetherInAllOrders(t *testing.T) {
	came, most := map[string]int{}, map[byte]int{}
	for _, c := range []struct {
		workers int
		cell    uint64
		deeds   []string
	}{
		{1, 0, []string{"s0 l0", "c f0", "h0 f0"}},
		{1, 0, []string{"s0 l0 s0 l0", "c", "c"}},
		{2, 0, []string{"s0 l0", "s1 l1", "c f0 c"}},
		{2, 0, []string{"s0 l0 h0 f0", "s1 l1 h1 f1"}},
		{2, 0, []string{"s1 c", "c f1", "c f0"}},
		{2, 0, []string{"h0 f0", "h1 f1", "h0 f0"}},
		{3, 0, []string{"s0 s1 s2", "c f0 c", "c f1"}},
		{3, 0, []string{"s0 s0", "l0", "c"}},
		{3, 0xfffffff8, []string{"s0 l0", "c f0", "s1 l1"}},
		{3, 0, []string{"s2", "s2", "l2", "c"}},
		{4, 0, []string{"h0", "h1", "f2", "c"}},
		{4, 0xf0, []string{"h0 f0", "h1 f1", "c f3", "s3"}},
		{5, 0, []string{"h4 f4", "h3 f3", "h2 f2 h2"}},
		{16, 0xffff0000, []string{"s9 l9", "s8 l8", "c f8 c f9"}},
		{2, pair(top, 3), []string{"f0 c", "f1 c", "l1"}},
		{2, pair(3, 3), []string{"f0 h0", "f1 c", "f1 f1"}},
		{1, pair(1, 0), []string{"f0", "f0", "h0", "s0 c"}},
	} {
		p := &play{judge: judge{t, idle.Yard{At: 0, Workers: c.workers}, came, most}, seen: map[string]bool{}}
		m := moment{cell: c.cell}
		s := stateOf(c.cell)
		p.before = int(s.searching)
		for _, i := range s.idlers(c.workers) {
			m.told.slept[i]++
		}
		for _, line := range c.deeds {
			m.hands = append(m.hands, hand{deeds: read(line)})
		}
		p.from(m)
		if p.ends == 0 {
			t.Errorf("%+v never ends", c)
		}
	}
	// Each of them was overtaken more than once.
	for _, kind := range kinds() {
		if most[kind] < 4 {
			t.Errorf("%c took %d steps at most", kind, most[kind])
		}
	}
	endedAll(t, came, 1)
}

// endedAll looks that each deed has ended in all ways, and so often at least.
func endedAll(t *testing.T, came map[string]int, often int) {
	t.Helper()
	for _, end := range []string{"s0", "l0", "l5", "h0", "h8", "f0", "f15", "c0", "c5"} {
		if came[end] < often {
			t.Error(end, came)
		}
	}
	if len(came) != 9 {
		t.Error("what came of the deeds:", came)
	}
}

// many are the workers of a loom, of whom each may do any deed.
type many struct {
	judge
	*loom.Loom
	ledger
	walks []*walk.Walk
	under []deed
	steps []int
	lost  []int // how often others turned the cell since it was begun
}

// Many workers on one loom, in drawn orders, again and again till none is under way.
func TestManyTogether(t *testing.T) {
	came := map[string]int{}
	for seed := range uint64(8) {
		for _, workers := range []int{1, 2, 3, 7, 15, 16} {
			for _, junk := range []uint64{0, 0xffff0000} {
				m := newMany(t, workers, junk)
				m.came = came
				m.run(drawn(seed))
			}
		}
	}
	endedAll(t, came, 100)
}

// newMany lays the yard's cell between others, and makes those of its bits 1 that play no part, of junk.
func newMany(t *testing.T, workers int, junk uint64) *many {
	y := idle.Yard{At: 3, Workers: workers}
	mem := memory(t, 7, 7, 7, junk>>workers<<workers, 7)
	l, e := loom.New(mem, api.MaxWorkers)
	told(t, e, api.Fine)
	n := l.Workers()
	return &many{judge: judge{t, y, map[string]int{}, map[byte]int{}}, Loom: l,
		walks: make([]*walk.Walk, n), under: make([]deed, n), steps: make([]int, n), lost: make([]int, n)}
}

func (m *many) run(draw func(int) int) {
	for range 30 {
		for range 100 {
			who := draw(m.Loom.Workers())
			if m.walks[who] == nil {
				m.begin(who, deed{kinds()[draw(5)], draw(m.Yard.Workers)})
			}
			m.step(who)
		}
		for who := range m.Loom.Workers() {
			for m.walks[who] != nil {
				m.step(who)
			}
		}
		m.isIn(&m.judge, m.Mem(), 0)
	}
	if l := m.Mem().All(); len(l) != 5 || l[0] != 7 || l[1] != 7 || l[2] != 7 || l[4] != 7 {
		m.Fatal("a cell beside the yard has changed", l)
	}
}

func (m *many) begin(who int, d deed) {
	m.under[who], m.walks[who], m.steps[who], m.lost[who] = d, d.walk(m.Yard), 0, 0
	told(m.T, m.Start(who, m.walks[who]), api.Fine)
}

func (m *many) step(who int) {
	m.Helper()
	was := m.Mem().All()[m.At]
	told(m.T, m.Pick(who), api.Fine)
	is := m.Mem().All()[m.At]
	m.steps[who]++
	r, ok := m.Result(who)
	m.stepped(m.under[who], m.steps[who], was, is, r, ok)
	// Of two steps, each one more was lost to another one who turned the cell.
	if m.steps[who] > 2+m.lost[who] {
		m.Fatalf("%+v took %d steps, and the cell was turned %d times", m.under[who], m.steps[who], m.lost[who])
	}
	if was != is {
		for i := range m.lost {
			m.lost[i]++
		}
	}
	if l := m.Loom.Held(); len(l) != 0 {
		m.Fatal("held are", l)
	}
	if ok {
		m.note(m.under[who], r)
		m.walks[who] = nil
	}
}

// No two choose one and the same sleep: of two who saw it, one alone is told the worker.
func TestChosenOnce(t *testing.T) {
	y := idle.Yard{At: 0, Workers: 16}
	for i := range 16 {
		m := memory(t, 0)
		l, _ := loom.New(m, 16)
		alone(t, l, 0, y.Sleep(i), 2, api.Result{})
		var walks []*walk.Walk
		for who := range 16 {
			walks = append(walks, y.Choose())
			told(t, l.Start(who, walks[who]), api.Fine)
			told(t, l.Pick(who), api.Fine)
		}
		want := api.Result{V: uint64(i)}
		for who := range 16 {
			told(t, l.Pick(who), api.Fine)
			isEnded(t, walks[who], want)
			want = api.Result{Code: api.Empty}
		}
		looks(t, y, m, 1)
	}
}

func alone(t *testing.T, l *loom.Loom, who int, w *walk.Walk, steps int, want api.Result) {
	t.Helper()
	told(t, l.Start(who, w), api.Fine)
	if n, e := l.Alone(who, 10); n != steps || e != api.Fine {
		t.Fatalf("%d steps, %d", n, e)
	}
	isEnded(t, w, want)
}

// The chapter's example.
func TestTwoWorkers(t *testing.T) {
	y := idle.Yard{At: 0, Workers: 2}
	m := memory(t, 0)
	l, _ := loom.New(m, 2)
	alone(t, l, 1, y.Sleep(1), 2, api.Result{})
	looks(t, y, m, 0, 1)
	alone(t, l, 0, y.Choose(), 2, api.Result{V: 1})
	looks(t, y, m, 1)
	alone(t, l, 0, y.Choose(), 1, api.Result{Code: api.Empty})
	alone(t, l, 1, y.Found(1), 2, api.Result{V: 1})
	looks(t, y, m, 0)
	isCells(t, m, 0)
}

// Two yards in one memory leave each other alone.
func TestTwoYards(t *testing.T) {
	y, z := idle.Yard{At: 1, Workers: 3}, idle.Yard{At: 2, Workers: 5}
	m := memory(t, 9, 0, 0, 9)
	l, _ := loom.New(m, 4)
	for who, w := range []*walk.Walk{y.Sleep(2), z.Sleep(4), y.Search(1), z.Search(0)} {
		told(t, l.Start(who, w), api.Fine)
	}
	for i := range 40 {
		l.Pick(i % 4)
	}
	looks(t, y, m, 1, 2)
	looks(t, z, m, 1, 4)
	alone(t, l, 0, z.Found(3), 2, api.Result{V: 1})
	alone(t, l, 1, z.Choose(), 2, api.Result{V: 4})
	looks(t, y, m, 1, 2)
	isCells(t, m, 9, pair(1, 4), pair(1, 0), 9)
}
