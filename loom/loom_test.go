package loom_test

import (
	"math"
	"slices"
	"testing"

	"coachyard/api"
	"coachyard/cells"
	"coachyard/loom"
	"coachyard/walk"
)

const most = math.MaxUint64

func memory(t *testing.T, l ...uint64) *cells.Mem {
	t.Helper()
	m, e := cells.New(len(l))
	if e != api.Fine || m.Fill(l) != api.Fine {
		t.Fatal(e)
	}
	return m
}

// over is a loom over a memory of those cells.
func over(t *testing.T, workers int, l ...uint64) *loom.Loom {
	t.Helper()
	made, e := loom.New(memory(t, l...), workers)
	if e != api.Fine {
		t.Fatal(e)
	}
	return made
}

// one is a loom of one worker with w.
func one(t *testing.T, w *walk.Walk, l ...uint64) *loom.Loom {
	t.Helper()
	made := over(t, 1, l...)
	started(t, made, 0, w)
	return made
}

func started(t *testing.T, l *loom.Loom, who int, w *walk.Walk) {
	t.Helper()
	told(t, l.Start(who, w), api.Fine)
}

func told(t *testing.T, got, want api.Code) {
	t.Helper()
	if got != want {
		t.Fatalf("told %d, not %d", got, want)
	}
}

func load(cell int) api.Access {
	return api.Access{Kind: api.Load, Cell: cell}
}

func wait(cell int, a uint64) api.Access {
	return api.Access{Kind: api.Wait, Cell: cell, A: a}
}

// loads asks n times for the cell 0.
func loads(n int) *walk.Walk {
	return walk.Plain(slices.Repeat([]api.Access{load(0)}, n))
}

func ended(r api.Result) *walk.Walk {
	return walk.New(func(w *walk.Walk) { w.End(r) })
}

// inside is a walk that went into sub, and ends with what came of that.
func inside(sub *walk.Walk) *walk.Walk {
	return walk.New(func(w *walk.Walk) { w.Into(sub, w.End) })
}

// holding is a walk that holds l, and asks for the cell 0 without end.
func holding(l ...uint64) *walk.Walk {
	return walk.New(func(w *walk.Walk) {
		w.Hold(l)
		var again func(uint64, bool)
		again = func(uint64, bool) { w.Ask(load(0), again) }
		w.Ask(load(0), again)
	})
}

// stuck asks once, and then wants nothing, but hasn't ended.
func stuck() *walk.Walk {
	return walk.New(func(w *walk.Walk) { w.Ask(load(0), nil) })
}

// refused are accesses that no memory of n cells does.
func refused(n int) []api.Access {
	return []api.Access{{}, {Kind: -1}, {Kind: api.Wait + 1}, {Kind: math.MaxInt, Cell: -1}, load(-1), load(n), load(math.MinInt), load(math.MaxInt),
		{Kind: api.Store, Cell: n, A: 1}, {Kind: api.Cas, Cell: n}, {Kind: api.Add, Cell: -1, A: 1}, {Kind: api.Or, Cell: n, A: 1}, {Kind: api.And, Cell: n},
		wait(n, 0), wait(-1, 5), wait(math.MaxInt, 0)}
}

// places are numbers of workers who aren't there, if there are n.
func places(n int) []int {
	return []int{-1, n, n + 1, 100, math.MinInt, math.MaxInt}
}

func isCells(t *testing.T, l *loom.Loom, want ...uint64) {
	t.Helper()
	if got := l.Mem().All(); !slices.Equal(got, want) {
		t.Fatalf("the cells are %v, not %v", got, want)
	}
}

func isSteps(t *testing.T, l *loom.Loom, want int) {
	t.Helper()
	if got := l.Steps(); got != want {
		t.Fatalf("%d steps, not %d", got, want)
	}
}

func same(a, b api.Result) bool {
	return a.Code == b.Code && a.V == b.V && slices.Equal(a.L, b.L)
}

func isEnded(t *testing.T, l *loom.Loom, who int, want api.Result) {
	t.Helper()
	if r, ok := l.Result(who); !ok || !same(r, want) {
		t.Fatalf("worker %d ended with %+v, %t, not with %+v", who, r, ok, want)
	}
	if l.Busy(who) || l.Parked(who) {
		t.Fatalf("worker %d has ended, but is busy %t, parked %t", who, l.Busy(who), l.Parked(who))
	}
}

func runs(t *testing.T, l *loom.Loom, who int, parked bool) {
	t.Helper()
	if r, ok := l.Result(who); ok || !same(r, api.Result{}) {
		t.Fatalf("worker %d hasn't ended, but tells %+v, %t", who, r, ok)
	}
	if !l.Busy(who) || l.Parked(who) != parked {
		t.Fatalf("worker %d is busy %t, parked %t", who, l.Busy(who), l.Parked(who))
	}
}

func hasNone(t *testing.T, l *loom.Loom, who int) {
	t.Helper()
	if r, ok := l.Result(who); ok || !same(r, api.Result{}) || l.Busy(who) || l.Parked(who) {
		t.Fatalf("worker %d has no walk, but tells %+v, %t, %t, %t", who, r, ok, l.Busy(who), l.Parked(who))
	}
}

func alone(t *testing.T, l *loom.Loom, who, times, steps int, e api.Code) {
	t.Helper()
	was := l.Steps()
	n, got := l.Alone(who, times)
	if n != steps || got != e {
		t.Fatalf("Alone(%d, %d): %d, %d, not %d, %d", who, times, n, got, steps, e)
	}
	isSteps(t, l, was+steps)
}

// P5.1

func TestNew(t *testing.T) {
	for n := 1; n <= api.MaxWorkers; n++ {
		m := memory(t, 4, 5, 6)
		l, e := loom.New(m, n)
		if e != api.Fine || l == nil || l.Mem() != m || l.Workers() != n || l.Steps() != 0 || len(l.Held()) != 0 {
			t.Fatal(n, l, e)
		}
		isCells(t, l, 4, 5, 6)
		for who := range n {
			hasNone(t, l, who)
			told(t, l.Pick(who), api.Idle)
		}
	}
}

func TestNewRefuses(t *testing.T) {
	m := memory(t, 0)
	for _, n := range []int{0, -1, api.MaxWorkers + 1, math.MinInt, math.MaxInt} {
		if l, e := loom.New(m, n); l != nil || e != api.Arg {
			t.Error(n, l, e)
		}
		if l, e := loom.New(nil, n); l != nil || e != api.Nil {
			t.Error(n, l, e)
		}
	}
	if l, e := loom.New(nil, 1); l != nil || e != api.Nil {
		t.Error(l, e)
	}
}

// The memory is the one that was handed in, not a copy of it.
func TestOverTheMemoryItself(t *testing.T) {
	m := memory(t, 1, 2)
	a, _ := loom.New(m, 1)
	b, _ := loom.New(m, 2)
	started(t, a, 0, walk.Plain([]api.Access{{Kind: api.Store, Cell: 0, A: 7}, {Kind: api.Load, Cell: 1}}))
	told(t, a.Pick(0), api.Fine)
	if v, _, _ := m.Do(load(0)); v != 7 {
		t.Error(v)
	}
	m.Fill([]uint64{7, 8})
	told(t, a.Pick(0), api.Fine)
	isEnded(t, a, 0, api.Result{V: 8, L: []uint64{1, 8}})
	started(t, b, 1, loads(1))
	told(t, b.Pick(1), api.Fine)
	isEnded(t, b, 1, api.Result{V: 7, L: []uint64{7}})
	isSteps(t, a, 2)
	isSteps(t, b, 1)
}

// A memory without cells refuses everything.
func TestOverAnEmptyMemory(t *testing.T) {
	l, e := loom.New(new(cells.Mem), 1)
	told(t, e, api.Fine)
	started(t, l, 0, walk.Until(wait(0, 0)))
	runs(t, l, 0, false)
	told(t, l.Pick(0), api.Broken)
	isEnded(t, l, 0, api.Result{Code: api.Broken})
}

func TestStart(t *testing.T) {
	l := over(t, 3, 9)
	w := loads(1)
	started(t, l, 1, w)
	runs(t, l, 1, false)
	if a, ok := w.Want(); !ok || a != load(0) {
		t.Error("to start does no step", a, ok)
	}
	hasNone(t, l, 0)
	hasNone(t, l, 2)
	isSteps(t, l, 0)
	told(t, l.Pick(1), api.Fine)
	isEnded(t, l, 1, api.Result{V: 9, L: []uint64{9}})
	if r, ok := w.Result(); !ok || r.V != 9 {
		t.Error("the walk itself is done", r, ok)
	}
}

// One whose walk has ended gets another one; what came of the first one is told no more.
func TestStartAgain(t *testing.T) {
	l := one(t, ended(api.Result{Code: api.Full, V: 3, L: []uint64{1}}), 6)
	isEnded(t, l, 0, api.Result{Code: api.Full, V: 3, L: []uint64{1}})
	started(t, l, 0, loads(1))
	runs(t, l, 0, false)
	told(t, l.Pick(0), api.Fine)
	isEnded(t, l, 0, api.Result{V: 6, L: []uint64{6}})
	started(t, l, 0, ended(api.Result{V: 8}))
	isEnded(t, l, 0, api.Result{V: 8})
}

func TestStartOfOneUnderWay(t *testing.T) {
	w := loads(2)
	w.Give(5, true)
	l := one(t, w, 6)
	told(t, l.Pick(0), api.Fine)
	isEnded(t, l, 0, api.Result{V: 6, L: []uint64{5, 6}})
}

func TestStartRefuses(t *testing.T) {
	l := over(t, 2, 0)
	for _, who := range places(2) {
		told(t, l.Start(who, nil), api.Nil)
		told(t, l.Start(who, loads(1)), api.Place)
	}
	told(t, l.Start(0, nil), api.Nil)
	hasNone(t, l, 0)
	first := loads(2)
	started(t, l, 0, first)
	told(t, l.Start(0, nil), api.Nil)
	told(t, l.Start(0, loads(1)), api.Busy)
	told(t, l.Start(0, first), api.Busy)
	told(t, l.Start(0, ended(api.Result{})), api.Busy)
	alone(t, l, 0, 5, 2, api.Fine)
	isEnded(t, l, 0, api.Result{L: []uint64{0, 0}})
}

// Busy is who is parked, too, and who wants nothing but hasn't ended.
func TestStartRefusesAllWhoHaventEnded(t *testing.T) {
	for _, w := range []*walk.Walk{walk.Until(wait(0, 0)), walk.New(nil), new(walk.Walk), inside(walk.New(nil)), stuck()} {
		l := one(t, w, 0)
		told(t, l.Start(0, loads(1)), api.Busy)
		w.Break(api.Abort)
		isEnded(t, l, 0, api.Result{Code: api.Abort})
		started(t, l, 0, loads(1))
	}
}

// Also two workers may have one walk: each pick goes on with it.
func TestTwoWithOneWalk(t *testing.T) {
	l := over(t, 2, 5)
	w := loads(3)
	w.Hold([]uint64{4})
	started(t, l, 0, w)
	started(t, l, 1, w)
	if h := l.Held(); !slices.Equal(h, []uint64{4, 4}) {
		t.Error(h)
	}
	told(t, l.Pick(0), api.Fine)
	told(t, l.Pick(1), api.Fine)
	alone(t, l, 0, 9, 1, api.Fine)
	isEnded(t, l, 0, api.Result{V: 5, L: []uint64{5, 5, 5}})
	isEnded(t, l, 1, api.Result{V: 5, L: []uint64{5, 5, 5}})
	told(t, l.Pick(1), api.Idle)
}

// P5.2

// One pick does one access of each kind, and gives what it told: what the cell was, and whether it won.
func TestPickOfAllKinds(t *testing.T) {
	for _, c := range []struct {
		a   api.Access
		is  uint64
		won bool
	}{
		{load(1), 5, true},
		{api.Access{Kind: api.Store, Cell: 1, A: most}, most, true},
		{api.Access{Kind: api.Cas, Cell: 1, A: 5, B: 9}, 9, true},
		{api.Access{Kind: api.Cas, Cell: 1, A: 4, B: 9}, 5, false},
		{api.Access{Kind: api.Add, Cell: 1, A: most}, 4, true},
		{api.Access{Kind: api.Or, Cell: 1, A: 10}, 15, true},
		{api.Access{Kind: api.And, Cell: 1, A: 6}, 4, true},
		{wait(1, 4), 5, true},
	} {
		given := 0
		w := walk.New(func(w *walk.Walk) {
			w.Ask(c.a, func(v uint64, won bool) {
				given++
				if v != 5 || won != c.won {
					t.Errorf("%+v: given %d, %t", c.a, v, won)
				}
				w.End(api.Result{V: v + 1})
			})
		})
		l := one(t, w, 3, 5, 8)
		runs(t, l, 0, false)
		told(t, l.Pick(0), api.Fine)
		isCells(t, l, 3, c.is, 8)
		isEnded(t, l, 0, api.Result{V: 6})
		isSteps(t, l, 1)
		told(t, l.Pick(0), api.Idle)
		isSteps(t, l, 1)
		if given != 1 {
			t.Error(given)
		}
	}
}

// A pick does no more than one step, also of a walk in walks.
func TestPickDoesOneStep(t *testing.T) {
	l := one(t, inside(inside(walk.Plain([]api.Access{{Kind: api.Add, A: 1}, {Kind: api.Add, A: 10}, {Kind: api.Add, A: 100}}))), 0)
	for i, is := range []uint64{1, 11, 111} {
		runs(t, l, 0, false)
		told(t, l.Pick(0), api.Fine)
		isCells(t, l, is)
		isSteps(t, l, i+1)
	}
	isEnded(t, l, 0, api.Result{V: 11, L: []uint64{0, 1, 11}})
}

func TestPickOfNobody(t *testing.T) {
	for _, n := range []int{1, 2, api.MaxWorkers} {
		l := over(t, n, 0)
		for who := range n {
			started(t, l, who, holding(1))
		}
		for _, who := range places(n) {
			told(t, l.Pick(who), api.Place)
		}
		isSteps(t, l, 0)
	}
}

func TestPickOfWhoWantsNothing(t *testing.T) {
	for _, w := range []*walk.Walk{ended(api.Result{}), ended(api.Result{Code: api.Broken}), walk.Plain(nil), walk.New(nil), new(walk.Walk), inside(walk.New(nil))} {
		l := one(t, w, 0)
		r, was := w.Result()
		told(t, l.Pick(0), api.Idle)
		told(t, l.Pick(0), api.Idle)
		if s, is := l.Result(0); is != was || !same(r, s) || l.Busy(0) == is || l.Parked(0) {
			t.Error(r, was, s, is)
		}
		isSteps(t, l, 0)
	}
	l := one(t, stuck(), 0)
	told(t, l.Pick(0), api.Fine)
	told(t, l.Pick(0), api.Idle)
	runs(t, l, 0, false)
	isSteps(t, l, 1)
}

// Who waits for a cell does no step till that is another one; a Wait that wins is a step.
func TestPickOfWhoIsParked(t *testing.T) {
	for _, a := range []uint64{0, 5, most} {
		w := walk.New(func(w *walk.Walk) {
			w.Ask(wait(1, a), func(v uint64, won bool) {
				if !won {
					t.Error("a Wait that didn't win is no step")
				}
				w.End(api.Result{V: v})
			})
		})
		l := over(t, 2, a+1, a)
		started(t, l, 0, w)
		for range 3 {
			told(t, l.Pick(0), api.Parked)
			runs(t, l, 0, true)
		}
		isSteps(t, l, 0)
		isCells(t, l, a+1, a)
		started(t, l, 1, walk.Plain([]api.Access{{Kind: api.Add, Cell: 0, A: 1}, {Kind: api.Add, Cell: 1, A: 2}, {Kind: api.Add, Cell: 1, A: most - 1}}))
		told(t, l.Pick(1), api.Fine)
		told(t, l.Pick(0), api.Parked)
		told(t, l.Pick(1), api.Fine)
		runs(t, l, 0, false)
		told(t, l.Pick(1), api.Fine)
		runs(t, l, 0, true)
		told(t, l.Pick(0), api.Parked)
		l.Mem().Fill([]uint64{0, a ^ 1})
		told(t, l.Pick(0), api.Fine)
		isEnded(t, l, 0, api.Result{V: a ^ 1})
		isCells(t, l, 0, a^1)
		isSteps(t, l, 4)
	}
}

// A Cas that doesn't win is a step, and nobody is parked at it.
func TestLosingIsNotWaiting(t *testing.T) {
	l := one(t, walk.Until(api.Access{Kind: api.Cas, A: 1, B: 2}), 0)
	for i := range 5 {
		runs(t, l, 0, false)
		told(t, l.Pick(0), api.Fine)
		isSteps(t, l, i+1)
	}
	l.Mem().Fill([]uint64{1})
	told(t, l.Pick(0), api.Fine)
	isEnded(t, l, 0, api.Result{V: 1})
	isCells(t, l, 2)
}

func TestPickOfWhatIsRefused(t *testing.T) {
	for _, a := range refused(2) {
		w := walk.New(func(w *walk.Walk) {
			w.Hold([]uint64{8})
			w.Ask(load(0), func(uint64, bool) {
				w.Ask(a, func(uint64, bool) { t.Errorf("%+v: something is given", a) })
			})
		})
		l := one(t, w, 6, 7)
		told(t, l.Pick(0), api.Fine)
		runs(t, l, 0, false)
		told(t, l.Pick(0), api.Broken)
		isEnded(t, l, 0, api.Result{Code: api.Broken})
		if r, ok := w.Result(); !ok || !same(r, api.Result{Code: api.Broken}) {
			t.Error(r, ok)
		}
		isCells(t, l, 6, 7)
		isSteps(t, l, 2)
		told(t, l.Pick(0), api.Idle)
		isSteps(t, l, 2)
		if h := l.Held(); len(h) != 0 {
			t.Error(h)
		}
		started(t, l, 0, loads(1))
	}
}

// The worker's own walk is broken, not the one into which it went: that would tell the outer one how to go on.
func TestRefusedInAnInnerWalk(t *testing.T) {
	sub := walk.Plain([]api.Access{load(0), load(9)})
	l := one(t, walk.New(func(w *walk.Walk) {
		w.Into(sub, func(api.Result) { t.Error("it is broken, and goes on") })
	}), 0)
	told(t, l.Pick(0), api.Fine)
	told(t, l.Pick(0), api.Broken)
	isEnded(t, l, 0, api.Result{Code: api.Broken})
	if _, ok := sub.Result(); ok {
		t.Error("the inner one is broken")
	}
}

// The steps of each count for all; what tells neither Fine nor Broken counts for nobody.
func TestSteps(t *testing.T) {
	l := over(t, 3, 0)
	started(t, l, 0, loads(2))
	started(t, l, 1, walk.Plain([]api.Access{load(5)}))
	started(t, l, 2, walk.Until(wait(0, 0)))
	want := 0
	for i := range 40 {
		if e := l.Pick(i%5 - 1); e == api.Fine || e == api.Broken {
			want++
		}
		isSteps(t, l, want)
	}
	if want != 3 {
		t.Error(want)
	}
	started(t, l, 0, loads(1))
	isSteps(t, l, 3)
	told(t, l.Pick(0), api.Fine)
	isSteps(t, l, 4)
}

// A fault that is thrown by what a walk does next is nobody's else (R1), and the step was done.
func TestPickOfOneThatThrows(t *testing.T) {
	l := one(t, walk.New(func(w *walk.Walk) {
		w.Ask(api.Access{Kind: api.Add, A: 3}, func(uint64, bool) { panic("thrown") })
	}), 4)
	told(t, l.Pick(0), api.Fine)
	runs(t, l, 0, false)
	isCells(t, l, 7)
	isSteps(t, l, 1)
}

// What a walk does next may work on the loom itself.
func TestPickInAStep(t *testing.T) {
	l := over(t, 2, 0)
	started(t, l, 1, walk.Plain([]api.Access{{Kind: api.Add, A: 10}}))
	started(t, l, 0, walk.New(func(w *walk.Walk) {
		w.Ask(api.Access{Kind: api.Add, A: 1}, func(uint64, bool) {
			isSteps(t, l, 0) // the pick that is under way has told nothing yet
			told(t, l.Pick(0), api.Idle)
			told(t, l.Pick(1), api.Fine)
			isSteps(t, l, 1)
			told(t, l.Start(0, loads(1)), api.Busy)
			w.End(api.Result{V: 3})
			told(t, l.Start(0, loads(1)), api.Fine)
		})
	}))
	told(t, l.Pick(0), api.Fine)
	isSteps(t, l, 2)
	isCells(t, l, 11)
	isEnded(t, l, 1, api.Result{V: 1, L: []uint64{1}})
	runs(t, l, 0, false)
	told(t, l.Pick(0), api.Fine)
	isEnded(t, l, 0, api.Result{V: 11, L: []uint64{11}})
}

// All orders of nine picks of three workers: each step is done just where it is told, as by hand.
func TestAllOrdersAsByHand(t *testing.T) {
	for n := range 19683 {
		made := over(t, 3, 0, 1)
		mem := memory(t, 0, 1)
		var hand []*walk.Walk
		for who := range 3 {
			started(t, made, who, ofThree(who))
			hand = append(hand, ofThree(who))
		}
		steps := 0
		for range 9 {
			who := n % 3
			n /= 3
			e := byHand(mem, hand[who])
			told(t, made.Pick(who), e)
			if e == api.Fine || e == api.Broken {
				steps++
			}
			r, ok := hand[who].Result()
			if s, is := made.Result(who); is != ok || !same(r, s) || made.Busy(who) == ok {
				t.Fatal(r, ok, s, is)
			}
		}
		isSteps(t, made, steps)
		if !cells.Same(made.Mem(), mem) {
			t.Fatal(made.Mem().All(), mem.All())
		}
	}
}

// ofThree is a walk that waits, one that wakes it and loses at times, or one that is broken at its end.
func ofThree(who int) *walk.Walk {
	switch who {
	case 0:
		return walk.Plain([]api.Access{{Kind: api.Add, Cell: 1, A: 1}, wait(0, 0), {Kind: api.Store, Cell: 1, A: 9}})
	case 1:
		return inside(walk.Until(api.Access{Kind: api.Cas, Cell: 1, A: 2, B: 3}))
	}
	return walk.Plain([]api.Access{load(1), {Kind: api.Or, Cell: 0, A: 4}, load(2)})
}

func byHand(m *cells.Mem, w *walk.Walk) api.Code {
	a, ok := w.Want()
	if !ok {
		return api.Idle
	}
	if a.Kind == api.Wait && m.All()[a.Cell] == a.A {
		return api.Parked
	}
	v, won, e := m.Do(a)
	if e != api.Fine {
		w.Break(api.Broken)
		return api.Broken
	}
	w.Give(v, won)
	return api.Fine
}

// P5.3

func TestAlone(t *testing.T) {
	for n := 1; n <= 5; n++ {
		for times := 1; times <= 7; times++ {
			l := one(t, loads(n), 3)
			if times < n {
				alone(t, l, 0, times, times, api.Long)
				runs(t, l, 0, false)
				alone(t, l, 0, math.MaxInt, n-times, api.Fine)
			} else {
				alone(t, l, 0, times, n, api.Fine)
			}
			isEnded(t, l, 0, api.Result{V: 3, L: slices.Repeat([]uint64{3}, n)})
			alone(t, l, 0, times, 0, api.Idle)
		}
	}
}

// None is picked of a most below 1: what is told is Long then, also of one who is parked, and is broken at the next step.
func TestAloneOfNoTimes(t *testing.T) {
	for _, times := range []int{0, -1, math.MinInt} {
		for _, a := range []api.Access{load(0), wait(0, 0), load(9)} {
			l := one(t, walk.Plain([]api.Access{a}), 0)
			alone(t, l, 0, times, 0, api.Long)
			runs(t, l, 0, a.Kind == api.Wait)
		}
		l := over(t, 2, 0)
		alone(t, l, 0, times, 0, api.Idle)
		for _, who := range places(2) {
			alone(t, l, who, times, 0, api.Place)
		}
	}
}

// It goes on till nothing can be done: parked, or wanting nothing; and tells that.
func TestAloneStops(t *testing.T) {
	parks := []api.Access{load(0), load(0), wait(0, 0), load(0)}
	l := one(t, walk.Plain(parks), 0)
	alone(t, l, 0, 1, 1, api.Long)
	alone(t, l, 0, 1, 1, api.Long)
	alone(t, l, 0, 1, 0, api.Parked)
	l = one(t, walk.Plain(parks), 0)
	alone(t, l, 0, 3, 2, api.Parked)
	alone(t, l, 0, 3, 0, api.Parked)
	l.Mem().Fill([]uint64{1})
	alone(t, l, 0, 3, 2, api.Fine)
	l = one(t, stuck(), 0)
	alone(t, l, 0, 1, 1, api.Long)
	alone(t, l, 0, 1, 0, api.Idle)
	l = one(t, stuck(), 0)
	alone(t, l, 0, 2, 1, api.Idle)
	alone(t, l, 0, 0, 0, api.Idle)
	l = one(t, walk.New(nil), 0)
	alone(t, l, 0, 7, 0, api.Idle)
	runs(t, l, 0, false)
}

// The step that breaks the walk is one of those that were done; that one has ended then, and all is Fine.
func TestAloneBroken(t *testing.T) {
	for _, a := range refused(1) {
		for _, times := range []int{3, 4, math.MaxInt} {
			l := one(t, walk.Plain([]api.Access{load(0), load(0), a, load(0)}), 0)
			alone(t, l, 0, times, 3, api.Fine)
			isEnded(t, l, 0, api.Result{Code: api.Broken})
			alone(t, l, 0, times, 0, api.Idle)
		}
	}
	// Whoever went into it begins another walk then: the worker is busy, and Broken was the last answer.
	l := over(t, 1, 0)
	w := walk.Plain([]api.Access{load(0), load(9)})
	walk.New(func(v *walk.Walk) {
		v.Into(w, func(api.Result) { told(t, l.Start(0, loads(1)), api.Fine) })
	})
	started(t, l, 0, w)
	alone(t, l, 0, 5, 2, api.Broken)
	alone(t, l, 0, 5, 1, api.Fine)
}

// Others do nothing meanwhile.
func TestAloneIsAlone(t *testing.T) {
	l := over(t, 3, 0)
	for who := range 3 {
		started(t, l, who, walk.Plain([]api.Access{{Kind: api.Add, A: 1}, {Kind: api.Add, A: 1}}))
	}
	alone(t, l, 1, 9, 2, api.Fine)
	runs(t, l, 0, false)
	isEnded(t, l, 1, api.Result{V: 1, L: []uint64{0, 1}})
	runs(t, l, 2, false)
	isCells(t, l, 2)
	alone(t, l, 2, 9, 2, api.Fine)
	isEnded(t, l, 2, api.Result{V: 3, L: []uint64{2, 3}})
}

func TestAloneWithoutEnd(t *testing.T) {
	l := one(t, holding(1), 0)
	alone(t, l, 0, 100000, 100000, api.Long)
	l = one(t, walk.Until(api.Access{Kind: api.Cas, A: 1}), 0)
	alone(t, l, 0, 1000, 1000, api.Long)
}

// P5.4

func TestBusyAndParked(t *testing.T) {
	l := over(t, 4, 0, 5)
	started(t, l, 0, walk.Until(wait(1, 5)))
	started(t, l, 1, walk.Until(wait(1, 4)))
	started(t, l, 2, walk.Until(api.Access{Kind: api.Cas, Cell: 1, A: 4}))
	runs(t, l, 0, true)
	runs(t, l, 1, false)
	runs(t, l, 2, false)
	hasNone(t, l, 3)
	for _, who := range places(4) {
		hasNone(t, l, who)
	}
	l.Mem().Fill([]uint64{5, 4})
	runs(t, l, 0, false)
	runs(t, l, 1, true)
	isSteps(t, l, 0)
	isCells(t, l, 5, 4)
}

// Nobody is parked at a cell that isn't there, whatever it waits for.
func TestParkedAtNoCell(t *testing.T) {
	for _, a := range []api.Access{wait(1, 0), wait(-1, 0), wait(math.MaxInt, 7), wait(math.MinInt, most)} {
		l := one(t, walk.Until(a), 0)
		runs(t, l, 0, false)
		told(t, l.Pick(0), api.Broken)
		isEnded(t, l, 0, api.Result{Code: api.Broken})
	}
}

func TestParkedInAnInnerWalk(t *testing.T) {
	l := one(t, inside(inside(walk.Until(wait(0, 7)))), 7)
	runs(t, l, 0, true)
	told(t, l.Pick(0), api.Parked)
	l.Mem().Fill([]uint64{8})
	told(t, l.Pick(0), api.Fine)
	isEnded(t, l, 0, api.Result{V: 8})
}

// R4: each time it is asked, another list is told.
func TestResultIsTheCallers(t *testing.T) {
	l := one(t, ended(api.Result{Code: api.Empty, V: 2, L: []uint64{1, 2, 3}}), 0)
	r, _ := l.Result(0)
	r.L[0] = 9
	_ = append(r.L[:1], 8)
	isEnded(t, l, 0, api.Result{Code: api.Empty, V: 2, L: []uint64{1, 2, 3}})
}

func TestHeld(t *testing.T) {
	l := over(t, 5, 0)
	holds := func(want ...uint64) {
		t.Helper()
		if got := l.Held(); !slices.Equal(got, want) {
			t.Fatalf("held is %v, not %v", got, want)
		}
	}
	holds()
	started(t, l, 3, holding(7, 2))
	started(t, l, 0, holding(9))
	holds(9, 7, 2)
	outer := inside(holding(4, 0))
	outer.Hold([]uint64{most, 4})
	started(t, l, 2, outer)
	holds(9, most, 4, 4, 0, 7, 2)
	nothing := walk.New(nil)
	nothing.Hold([]uint64{6})
	started(t, l, 4, nothing)
	parked := walk.Until(wait(0, 0))
	parked.Hold([]uint64{5})
	started(t, l, 1, parked)
	holds(9, 5, most, 4, 4, 0, 7, 2, 6)
	l.Mem().Fill([]uint64{1})
	told(t, l.Pick(1), api.Fine)
	holds(9, most, 4, 4, 0, 7, 2, 6)
	// The inner one hasn't ended, but the worker's own has: nothing of it is told.
	outer.Break(api.Broken)
	holds(9, 7, 2, 6)
	h := l.Held()
	h[0], h[3] = 50, 60
	_ = append(h[:1], 70)
	holds(9, 7, 2, 6)
}

// What comes to be held while it goes is told at once.
func TestHeldStepByStep(t *testing.T) {
	l := one(t, walk.New(func(w *walk.Walk) {
		w.Ask(load(0), func(v uint64, _ bool) {
			w.Hold([]uint64{v})
			w.Ask(api.Access{Kind: api.Store, Cell: 0}, func(uint64, bool) {
				w.Hold(nil)
				w.Ask(load(0), nil)
			})
		})
	}), 13)
	for _, want := range [][]uint64{{13}, nil, nil} {
		told(t, l.Pick(0), api.Fine)
		if h := l.Held(); !slices.Equal(h, want) {
			t.Error(h, want)
		}
	}
}

// R1

func TestNobody(t *testing.T) {
	var l *loom.Loom
	if l.Mem() != nil || l.Workers() != 0 || l.Steps() != 0 || len(l.Held()) != 0 {
		t.Error("a nil loom has something")
	}
	for _, who := range []int{-1, 0, 1, math.MinInt, math.MaxInt} {
		told(t, l.Start(who, nil), api.Nil)
		told(t, l.Start(who, loads(1)), api.Nil)
		told(t, l.Pick(who), api.Nil)
		hasNone(t, l, who)
		for _, times := range []int{math.MinInt, 0, 1, math.MaxInt} {
			if n, e := l.Alone(who, times); n != 0 || e != api.Nil {
				t.Error(n, e)
			}
		}
	}
}

func TestMadeByNobody(t *testing.T) {
	l := new(loom.Loom)
	if l.Mem() != nil || l.Workers() != 0 || l.Steps() != 0 || len(l.Held()) != 0 {
		t.Error("it has something")
	}
	for _, who := range []int{-1, 0, 1} {
		told(t, l.Start(who, nil), api.Nil)
		told(t, l.Start(who, loads(1)), api.Place)
		told(t, l.Pick(who), api.Place)
		hasNone(t, l, who)
		alone(t, l, who, 3, 0, api.Place)
	}
}

// The document's example.
func TestTwoWithUntilOfACas(t *testing.T) {
	for first := range 2 {
		l := over(t, 2, 0)
		started(t, l, 0, walk.Until(api.Access{Kind: api.Cas, A: 0, B: 1}))
		started(t, l, 1, walk.Until(api.Access{Kind: api.Cas, A: 0, B: 1}))
		told(t, l.Pick(first), api.Fine)
		isEnded(t, l, first, api.Result{})
		isCells(t, l, 1)
		alone(t, l, 1-first, 50, 50, api.Long)
		runs(t, l, 1-first, false)
		l.Mem().Fill([]uint64{0})
		alone(t, l, 1-first, 50, 1, api.Fine)
	}
}
