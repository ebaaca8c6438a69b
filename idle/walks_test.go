package idle_test

import (
	"testing"

	"coachyard/api"
	"coachyard/idle"
	"coachyard/walk"
)

// P10.1

// deed is a walk by its name, and of whom.
type deed struct {
	kind byte
	i    int
}

const (
	sleep  = 's'
	leave  = 'l'
	search = 'h'
	found  = 'f'
	choose = 'c'
)

func kinds() []byte {
	return []byte{sleep, leave, search, found, choose}
}

func (d deed) walk(y idle.Yard) *walk.Walk {
	switch d.kind {
	case sleep:
		return y.Sleep(d.i)
	case leave:
		return y.Leave(d.i)
	case search:
		return y.Search(d.i)
	case found:
		return y.Found(d.i)
	}
	return y.Choose()
}

// by tells what comes of a deed with that state by the chapter's words, and what the state is then: that it is the same says nothing of whether it is wanted.
func (d deed) by(workers int, s state) (state, api.Result) {
	half := uint64(workers) / 2
	if workers%2 == 1 {
		half++
	}
	switch d.kind {
	case sleep:
		s.idle[d.i] = true
		return s, api.Result{}
	case leave:
		if !s.idle[d.i] {
			return s, api.Result{Code: api.Empty}
		}
		s.idle[d.i] = false
		return s, api.Result{}
	case search:
		// So many are at least half of them.
		if s.searching >= half {
			return s, api.Result{Code: api.Busy}
		}
		s.searching++
		return s, api.Result{}
	case found:
		if s.searching == 0 {
			return s, api.Result{Code: api.Lost}
		}
		s.searching--
		if s.searching == 0 {
			return s, api.Result{V: 1}
		}
		return s, api.Result{}
	}
	l := s.idlers(workers)
	if s.searching != 0 || len(l) == 0 {
		return s, api.Result{Code: api.Empty}
	}
	s.searching, s.idle[l[0]] = 1, false
	return s, api.Result{V: uint64(l[0])}
}

// step is an access that a walk must want, and what is given to it.
type step struct {
	want api.Access
	v    uint64
	won  bool
}

func load(cell int) api.Access {
	return api.Access{Kind: api.Load, Cell: cell}
}

func cas(cell int, from, to uint64) api.Access {
	return api.Access{Kind: api.Cas, Cell: cell, A: from, B: to}
}

// goes gives w what the steps tell, and looks that it wants just these, and ends behind them, not ahead.
func goes(t *testing.T, w *walk.Walk, end api.Result, steps ...step) {
	t.Helper()
	for i, s := range steps {
		if a, ok := w.Want(); !ok || a != s.want {
			t.Fatalf("step %d: it wants %+v, %t, not %+v", i, a, ok, s.want)
		}
		if r, ok := w.Result(); ok || r.Code != 0 || r.V != 0 || len(r.L) != 0 {
			t.Fatalf("step %d: it has ended with %+v", i, r)
		}
		holdsNothing(t, w)
		w.Give(s.v, s.won)
	}
	isEnded(t, w, end)
	// What is given then changes nothing.
	w.Give(pair(1, 1), true)
	w.Give(0, false)
	isEnded(t, w, end)
}

func isEnded(t *testing.T, w *walk.Walk, end api.Result) {
	t.Helper()
	if r, ok := w.Result(); !ok || r.Code != end.Code || r.V != end.V || len(r.L) != 0 {
		t.Fatalf("it ended with %+v, %t, not with %+v", r, ok, end)
	}
	if a, ok := w.Want(); ok || a != (api.Access{}) {
		t.Fatalf("it has ended, and wants %+v", a)
	}
	holdsNothing(t, w)
}

func holdsNothing(t *testing.T, w *walk.Walk) {
	t.Helper()
	if l := w.Held(); len(l) != 0 {
		t.Fatalf("it holds %v", l)
	}
}

// along tells the steps of a deed to which these words are told one after the other, its Cas being lost but for the last one, and what it ends with.
func (d deed) along(y idle.Yard, words ...uint64) ([]step, api.Result) {
	steps := []step{{load(y.At), words[0], true}}
	for i, u := range words {
		s, r := d.by(y.Workers, stateOf(u))
		if r.Code != api.Fine {
			return steps, r
		}
		c := step{cas(y.At, u, s.cell()), u, true}
		if i < len(words)-1 {
			c.v, c.won = words[i+1], false
		}
		steps = append(steps, c)
		if c.won {
			return steps, r
		}
	}
	return steps, api.Result{}
}

func (d deed) tried(t *testing.T, y idle.Yard, words ...uint64) {
	t.Helper()
	steps, end := d.along(y, words...)
	goes(t, d.walk(y), end, steps...)
}

// deeds are all walks of a yard with so many workers.
func deeds(workers int) []deed {
	var l []deed
	for _, kind := range kinds() {
		for i := range workers {
			if kind != choose || i == 0 {
				l = append(l, deed{kind, i})
			}
		}
	}
	return l
}

// Each one by hand, as the chapter's table says it.
func TestStepByStep(t *testing.T) {
	y := idle.Yard{At: 7, Workers: 3}
	one := func(w *walk.Walk, e api.Code, u uint64) {
		t.Helper()
		goes(t, w, api.Result{Code: e}, step{load(7), u, true})
	}
	two := func(w *walk.Walk, v, from, to uint64) {
		t.Helper()
		goes(t, w, api.Result{V: v}, step{load(7), from, true}, step{cas(7, from, to), from, true})
	}
	two(y.Sleep(0), 0, 0, 1)
	two(y.Sleep(2), 0, 0, 4)
	two(y.Sleep(2), 0, pair(top, 3), pair(top, 7))
	two(y.Sleep(1), 0, pair(1, 6), pair(1, 6)) // it was idle already
	one(y.Leave(1), api.Empty, pair(9, 0xfffffffd))
	two(y.Leave(1), 0, pair(9, 0xffffffff), pair(9, 0xfffffffd))
	two(y.Leave(2), 0, 4, 0)
	two(y.Search(1), 0, 7, pair(1, 7))
	two(y.Search(2), 0, pair(1, 0), pair(2, 0))
	one(y.Search(0), api.Busy, pair(2, 0))
	one(y.Search(0), api.Busy, pair(1<<31, 0))
	one(y.Search(0), api.Busy, pair(top, 7))
	one(y.Found(1), api.Lost, 7)
	two(y.Found(1), 1, pair(1, 7), 7)
	two(y.Found(0), 0, pair(2, 0), pair(1, 0))
	two(y.Found(0), 0, pair(top, 0), pair(top-1, 0))
	one(y.Choose(), api.Empty, 0)
	one(y.Choose(), api.Empty, 8) // the bit of no worker
	one(y.Choose(), api.Empty, 0xfffffff8)
	one(y.Choose(), api.Empty, pair(1, 7))
	one(y.Choose(), api.Empty, pair(1<<31, 7))
	two(y.Choose(), 0, 1, pair(1, 0))
	two(y.Choose(), 0, 7, pair(1, 6))
	two(y.Choose(), 1, 6, pair(1, 4))
	two(y.Choose(), 2, 0xfffffffc, pair(1, 0xfffffff8))
}

// Half of the workers may search, and of an odd number one more.
func TestSearchUpToHalf(t *testing.T) {
	for n, most := range []uint32{0, 1, 1, 2, 2, 3, 3, 4, 4, 5, 5, 6, 6, 7, 7, 8, 8} {
		if n == 0 {
			continue
		}
		y := idle.Yard{At: 0, Workers: n}
		for k := range most {
			goes(t, y.Search(n-1), api.Result{}, step{load(0), pair(k, 5), true}, step{cas(0, pair(k, 5), pair(k+1, 5)), pair(k, 5), true})
		}
		for _, k := range []uint32{most, most + 1, 1<<31 - 1, 1 << 31, 1<<31 + 1, top} {
			goes(t, y.Search(0), api.Result{Code: api.Busy}, step{load(0), pair(k, 5), true})
		}
	}
}

func TestOfAllWords(t *testing.T) {
	for n := 1; n <= 16; n++ {
		y := idle.Yard{At: []int{0, 3, 65535}[n%3], Workers: n}
		for _, d := range deeds(n) {
			for _, hi := range counts() {
				for _, lo := range marks() {
					d.tried(t, y, pair(hi, lo))
				}
			}
		}
	}
}

// near are words that lie near each other: all that three workers and a bit beside them can be, of few and of many searching.
func near() []uint64 {
	var l []uint64
	for _, hi := range []uint32{0, 1, 2, 3, top} {
		for lo := range uint32(16) {
			l = append(l, pair(hi, lo))
		}
	}
	return l
}

// Whatever a lost Cas tells, it is made of that anew, without another Load; what was told with the word ahead of it is forgotten.
func TestLostOnce(t *testing.T) {
	for n := 1; n <= 4; n++ {
		y := idle.Yard{At: 2, Workers: n}
		for _, d := range deeds(n) {
			for _, u := range near() {
				for _, v := range near() {
					d.tried(t, y, u, v)
				}
			}
		}
	}
}

func TestLostTwice(t *testing.T) {
	y := idle.Yard{At: 2, Workers: 2}
	for _, d := range deeds(2) {
		for _, u := range near() {
			for i, v := range near() {
				for j, w := range near() {
					if (i+j)%8 == 0 {
						d.tried(t, y, u, v, w)
					}
				}
			}
		}
	}
}

// drawn tells numbers that look like drawn ones, the same ones each time.
func drawn(seed uint64) func(n int) int {
	return func(n int) int {
		seed = seed*6364136223846793005 + 1442695040888963407
		return int(seed >> 33 % uint64(n))
	}
}

func TestLostOften(t *testing.T) {
	draw := drawn(1)
	for range 3000 {
		y := idle.Yard{At: draw(65536), Workers: 1 + draw(16)}
		l := deeds(y.Workers)
		d := l[draw(len(l))]
		var words []uint64
		for range 1 + draw(40) {
			hi, lo := uint32(draw(3)), uint32(draw(1<<30))<<2|uint32(draw(4))
			if d.kind == choose {
				hi = uint32(draw(10) / 9)
			}
			words = append(words, pair(hi, lo))
		}
		d.tried(t, y, words...)
	}
}

// What V was of a word that is gone is told no more.
func TestLostForgetsV(t *testing.T) {
	y := idle.Yard{At: 0, Workers: 4}
	goes(t, y.Found(0), api.Result{}, step{load(0), pair(1, 0), true}, step{cas(0, pair(1, 0), 0), pair(2, 0), false}, step{cas(0, pair(2, 0), pair(1, 0)), pair(2, 0), true})
	goes(t, y.Found(0), api.Result{V: 1}, step{load(0), pair(2, 0), true}, step{cas(0, pair(2, 0), pair(1, 0)), pair(1, 0), false}, step{cas(0, pair(1, 0), 0), pair(1, 0), true})
	goes(t, y.Found(0), api.Result{Code: api.Lost}, step{load(0), pair(1, 3), true}, step{cas(0, pair(1, 3), 3), 3, false})
	goes(t, y.Choose(), api.Result{V: 3}, step{load(0), 12, true}, step{cas(0, 12, pair(1, 8)), 8, false}, step{cas(0, 8, pair(1, 0)), 8, true})
	goes(t, y.Choose(), api.Result{}, step{load(0), 12, true}, step{cas(0, 12, pair(1, 8)), 13, false}, step{cas(0, 13, pair(1, 12)), 13, true})
	goes(t, y.Choose(), api.Result{Code: api.Empty}, step{load(0), 12, true}, step{cas(0, 12, pair(1, 8)), pair(1, 12), false})
	goes(t, y.Choose(), api.Result{Code: api.Empty}, step{load(0), 12, true}, step{cas(0, 12, pair(1, 8)), 16, false})
	goes(t, y.Leave(2), api.Result{Code: api.Empty}, step{load(0), 12, true}, step{cas(0, 12, 8), pair(1, 8), false})
	goes(t, y.Search(2), api.Result{Code: api.Busy}, step{load(0), pair(1, 12), true}, step{cas(0, pair(1, 12), pair(2, 12)), pair(2, 12), false})
}

// What a Cas told that won is no matter, nor whether a Load won; one that was lost is tried anew also where it told the word that was wanted.
func TestStrangeAnswers(t *testing.T) {
	y := idle.Yard{At: 1, Workers: 2}
	for _, v := range []uint64{0, 1, 3, pair(1, 0), pair(2, 3), all} {
		goes(t, y.Choose(), api.Result{V: 1}, step{load(1), 2, false}, step{cas(1, 2, pair(1, 0)), v, true})
		goes(t, y.Found(0), api.Result{V: 1}, step{load(1), pair(1, 2), false}, step{cas(1, pair(1, 2), 2), v, true})
		goes(t, y.Sleep(0), api.Result{}, step{load(1), 2, false}, step{cas(1, 2, 3), v, true})
		goes(t, y.Leave(1), api.Result{}, step{load(1), 2, false}, step{cas(1, 2, 0), v, true})
		goes(t, y.Search(1), api.Result{}, step{load(1), 2, false}, step{cas(1, 2, pair(1, 2)), v, true})
	}
	goes(t, y.Sleep(1), api.Result{}, step{load(1), 2, true}, step{cas(1, 2, 2), 2, false}, step{cas(1, 2, 2), 2, false}, step{cas(1, 2, 2), 2, true})
	goes(t, y.Choose(), api.Result{V: 1}, step{load(1), 2, true}, step{cas(1, 2, pair(1, 0)), 2, false}, step{cas(1, 2, pair(1, 0)), 2, true})
	goes(t, y.Choose(), api.Result{Code: api.Empty}, step{load(1), 0, false})
	goes(t, y.Found(1), api.Result{Code: api.Lost}, step{load(1), 3, false})
}

func TestWalksOfWrongYards(t *testing.T) {
	for _, y := range append(wrong(), idle.Yard{}) {
		isEnded(t, y.Choose(), api.Result{Code: api.Arg})
		for _, kind := range kinds() {
			for _, i := range []int{0, 1, -1, 15, 16, y.Workers - 1, y.Workers} {
				isEnded(t, deed{kind, i}.walk(y), api.Result{Code: api.Arg})
			}
		}
	}
}

// Only a worker sleeps, leaves, searches and finds.
func TestOfNoWorker(t *testing.T) {
	for n := 1; n <= 16; n++ {
		y := idle.Yard{At: 4, Workers: n}
		for _, i := range append(ends(), n-1, n, n+1) {
			for _, kind := range []byte{sleep, leave, search, found} {
				d := deed{kind, i}
				if i < 0 || i >= n {
					isEnded(t, d.walk(y), api.Result{Code: api.Arg})
					continue
				}
				d.tried(t, y, 0)
				d.tried(t, y, top)
				d.tried(t, y, pair(1, top))
			}
		}
	}
}

// R1: answers without end; a walk goes on, and each giving ends.
func TestAnswersWithoutEnd(t *testing.T) {
	y := idle.Yard{At: 0, Workers: 3}
	for _, c := range []struct {
		deed
		odd, even uint64
	}{
		{deed{sleep, 1}, 0, top},
		{deed{leave, 1}, 2, top},
		{deed{search, 1}, 0, pair(1, 7)},
		{deed{found, 1}, pair(1, 0), pair(top, 7)},
		{deed{choose, 0}, 7, 12},
	} {
		w := c.walk(y)
		for range 30000 {
			w.Give(c.odd, false)
			w.Give(c.even, false)
		}
		if _, ok := w.Result(); ok {
			t.Errorf("%+v never won, and has ended", c)
		}
		s, r := c.by(3, stateOf(c.even))
		goes(t, w, r, step{cas(0, c.even, s.cell()), c.even, true})
	}
}

// 4: one that is broken has ended with that code.
func TestBroken(t *testing.T) {
	y := idle.Yard{At: 0, Workers: 3}
	for _, kind := range kinds() {
		for steps := range 3 {
			w := deed{kind, 1}.walk(y)
			for range steps {
				w.Give(pair(0, 2), false)
			}
			if kind == found && steps > 0 {
				isEnded(t, w, api.Result{Code: api.Lost})
				continue
			}
			w.Break(api.Abort)
			isEnded(t, w, api.Result{Code: api.Abort})
		}
	}
}

// R6: what is kept is kept by each walk for itself.
func TestWalksSideBySide(t *testing.T) {
	y, z := idle.Yard{At: 1, Workers: 2}, idle.Yard{At: 9, Workers: 16}
	a, b, c, d, e, f := y.Sleep(1), z.Sleep(9), y.Leave(0), z.Choose(), y.Search(0), z.Found(3)
	for i, w := range []*walk.Walk{a, b, c, d, e, f} {
		w.Give(pair(uint32(i/5), uint32(3+i)), true)
	}
	goes(t, f, api.Result{V: 1}, step{cas(9, pair(1, 8), 8), 0, true})
	goes(t, d, api.Result{V: 1}, step{cas(9, 6, pair(1, 4)), 0, true})
	goes(t, b, api.Result{}, step{cas(9, 4, 516), 0, true})
	goes(t, e, api.Result{}, step{cas(1, 7, pair(1, 7)), 0, true})
	goes(t, c, api.Result{}, step{cas(1, 5, 4), 0, true})
	goes(t, a, api.Result{}, step{cas(1, 3, 3), 0, true})
}

// A walk goes into them, and wants and ends as they do.
func TestGoneInto(t *testing.T) {
	y := idle.Yard{At: 5, Workers: 4}
	w := walk.New(func(w *walk.Walk) {
		w.Into(y.Choose(), func(r api.Result) {
			w.Into(y.Found(int(r.V)), func(f api.Result) { w.End(api.Result{Code: f.Code, V: 10*r.V + f.V}) })
		})
	})
	goes(t, w, api.Result{V: 31}, step{load(5), 8, true}, step{cas(5, 8, pair(1, 0)), 8, true},
		step{load(5), pair(2, 1), true}, step{cas(5, pair(2, 1), pair(1, 1)), pair(1, 3), false}, step{cas(5, pair(1, 3), 3), pair(1, 3), true})
}
