package local_test

import (
	"slices"
	"testing"

	"coachyard/api"
	"coachyard/local"
	"coachyard/loom"
	"coachyard/queue"
	"coachyard/walk"
)

// P13.1, P13.2

func load(cell int) api.Access {
	return api.Access{Kind: api.Load, Cell: cell}
}

func store(cell int, v uint64) api.Access {
	return api.Access{Kind: api.Store, Cell: cell, A: v}
}

func cas(cell int, from, to uint64) api.Access {
	return api.Access{Kind: api.Cas, Cell: cell, A: from, B: to}
}

// some is a list, short to write.
func some(l ...uint64) []uint64 {
	return l
}

// step is an access that a walk must want, what it must hold then, and what is given to it.
type step struct {
	want api.Access
	v    uint64
	won  bool
	held []uint64
}

// reads is a step of one who holds nothing.
func reads(cell int, v uint64) step {
	return step{load(cell), v, true, nil}
}

// goes gives w what the steps tell, and looks that it wants and holds just these, and ends behind them, not ahead.
func goes(t *testing.T, w *walk.Walk, end api.Result, steps ...step) {
	t.Helper()
	goesOn(t, w, steps...)
	isEnded(t, w, end)
	// What is given then changes nothing.
	w.Give(3, true)
	w.Give(0, false)
	isEnded(t, w, end)
}

func goesOn(t *testing.T, w *walk.Walk, steps ...step) {
	t.Helper()
	for i, s := range steps {
		if a, ok := w.Want(); !ok || a != s.want {
			t.Fatalf("step %d: it wants %+v, %t, not %+v", i, a, ok, s.want)
		}
		if r, ok := w.Result(); ok || r.Code != 0 || r.V != 0 || len(r.L) != 0 {
			t.Fatalf("step %d: it has ended with %+v", i, r)
		}
		holds(t, w, s.held...)
		w.Give(s.v, s.won)
	}
}

func isEnded(t *testing.T, w *walk.Walk, end api.Result) {
	t.Helper()
	if r, ok := w.Result(); !ok || r.Code != end.Code || r.V != end.V || !slices.Equal(r.L, end.L) {
		t.Fatalf("it ended with %+v, %t, not with %+v", r, ok, end)
	}
	if a, ok := w.Want(); ok || a != (api.Access{}) {
		t.Fatalf("it has ended, and wants %+v", a)
	}
	holds(t, w)
}

func holds(t *testing.T, w *walk.Walk, want ...uint64) {
	t.Helper()
	if l := w.Held(); !slices.Equal(l, want) {
		t.Fatalf("it holds %d, not %d", l, want)
	}
}

func isRefused(t *testing.T, w *walk.Walk) {
	t.Helper()
	goes(t, w, api.Result{Code: api.Arg})
}

// Both kinds step by step, as their chapters' words tell it.
func TestDequeWrittenOut(t *testing.T) {
	d := local.Row{Kind: 0, At: 5, Size: 4}
	h := some(60)
	goes(t, d.Push(60), api.Result{}, step{load(6), 11, true, h}, step{load(5), 8, true, h}, step{store(10, 60), 1, true, h}, step{store(6, 12), 11, true, h})
	goes(t, d.Push(60), api.Result{Code: api.Full}, step{load(6), 12, true, h}, step{load(5), 8, true, h})
	goes(t, d.Pop(), api.Result{V: 60}, reads(6, 11), step{store(6, 10), 11, true, nil}, reads(5, 8), reads(9, 60))
	goes(t, d.Pop(), api.Result{V: 60}, reads(6, 9), step{store(6, 8), 9, true, nil}, reads(5, 8), reads(7, 60), step{cas(5, 8, 9), 8, true, nil}, step{store(6, 9), 8, true, h})
	goes(t, d.Pop(), api.Result{Code: api.Empty}, reads(6, 9), step{store(6, 8), 9, true, nil}, reads(5, 8), reads(7, 60), step{cas(5, 8, 9), 9, false, nil}, step{store(6, 9), 8, true, nil})
	goes(t, d.Pop(), api.Result{Code: api.Empty}, reads(6, 8), step{store(6, 7), 8, true, nil}, reads(5, 8), step{store(6, 8), 7, true, nil})
	goes(t, d.Steal(d), api.Result{V: 60}, reads(5, 8), reads(6, 9), reads(7, 60), step{cas(5, 8, 9), 8, true, nil})
	goes(t, d.Steal(d), api.Result{Code: api.Abort}, reads(5, 8), reads(6, 9), reads(7, 60), step{cas(5, 8, 9), 9, false, nil})
	goes(t, d.Steal(d), api.Result{Code: api.Empty}, reads(5, 8), reads(6, 8))
}

func TestRingWrittenOut(t *testing.T) {
	r, o := local.Row{Kind: 1, At: 5, Size: 4}, local.Row{Kind: 1, At: 11, Size: 4}
	h := some(60)
	goes(t, r.Push(60), api.Result{}, step{load(5), pair(8, 9), true, h}, step{load(6), 11, true, h}, step{store(10, 60), 1, true, h}, step{store(6, 12), 11, true, h})
	goes(t, r.Push(60), api.Result{Code: api.Busy}, step{load(5), pair(8, 9), true, h}, step{load(6), 12, true, h})
	goes(t, r.Push(60), api.Result{Code: api.Full, L: some(71, 72)}, step{load(5), pair(8, 8), true, h}, step{load(6), 12, true, h}, step{cas(5, pair(8, 8), pair(10, 10)), pair(8, 8), true, h},
		step{load(7), 71, true, h}, step{load(8), 72, true, some(60, 71)})
	goes(t, r.Pop(), api.Result{V: 60}, reads(5, pair(8, 8)), reads(6, 11), step{cas(5, pair(8, 8), pair(9, 9)), pair(8, 8), true, nil}, reads(7, 60))
	goes(t, r.Pop(), api.Result{V: 60}, reads(5, pair(7, 8)), reads(6, 11), step{cas(5, pair(7, 8), pair(7, 9)), pair(7, 8), true, nil}, reads(7, 60))
	goes(t, r.Pop(), api.Result{Code: api.Empty}, reads(5, pair(8, 8)), reads(6, 8))
	goes(t, r.Steal(o), api.Result{V: 72}, reads(12, 2), reads(11, pair(1, 1)), reads(5, pair(8, 8)), reads(6, 11), step{cas(5, pair(8, 8), pair(8, 10)), pair(8, 8), true, nil},
		reads(7, 71), step{store(15, 71), 0, true, some(71)}, step{load(8), 72, true, some(71)}, step{load(5), pair(8, 11), true, some(71, 72)},
		step{cas(5, pair(8, 11), pair(11, 11)), pair(8, 11), true, some(71, 72)}, step{store(12, 3), 2, true, some(71, 72)})
	goes(t, r.Steal(o), api.Result{Code: api.Full}, reads(12, 4), reads(11, pair(1, 2)))
	goes(t, r.Steal(o), api.Result{Code: api.Busy}, reads(12, 3), reads(11, pair(1, 2)), reads(5, pair(7, 8)), reads(6, 11))
	goes(t, r.Steal(o), api.Result{Code: api.Empty}, reads(12, 3), reads(11, pair(1, 2)), reads(5, pair(8, 8)), reads(6, 8))
}

// alike gives both walks the same answers, and looks that they want, hold and tell the same.
func alike(t *testing.T, a, b *walk.Walk, answer func(a api.Access) (uint64, bool)) {
	t.Helper()
	for range 60 {
		x, wants := a.Want()
		y, too := b.Want()
		r, has := a.Result()
		s, ended := b.Result()
		if x != y || wants != too || has != ended || r.Code != s.Code || r.V != s.V || !slices.Equal(r.L, s.L) || !slices.Equal(a.Held(), b.Held()) {
			t.Fatalf("it wants %+v, %t, and tells %+v, %t, not %+v, %t and %+v, %t", x, wants, r, has, y, too, s, ended)
		}
		if !wants {
			return
		}
		v, won := answer(x)
		a.Give(v, won)
		b.Give(v, won)
	}
}

// firsts are words of a row's first cell, at and beside the places where its counts go round, or seem to fall.
func firsts(kind int) []uint64 {
	l := some(0, 1, 5, turn-2, turn, round-3, round-1)
	if kind == 0 {
		return append(l, round, half-2, half, all-2, all)
	}
	return append(l, pair(4, 5), pair(round-1, 0), pair(round-2, round-1), pair(turn, turn))
}

// near tells answers like those of a row whose first task has a number near to first.
func near(draw func(int) int, first uint64, size int) func(a api.Access) (uint64, bool) {
	return func(a api.Access) (uint64, bool) {
		return first + uint64(draw(size+3)-1), a.Kind != api.Cas || draw(3) > 0
	}
}

// What stands behind the face goes the same way, whatever is given to it.
func TestAsTheRowsBehind(t *testing.T) {
	draw := drawn(2)
	for _, r := range rights() {
		at := r.At - r.Size - 2
		if at < 0 {
			at = r.At + r.Size + 2
		}
		o := local.Row{Kind: r.Kind, At: at, Size: r.Size}
		for _, first := range firsts(r.Kind) {
			for range 4 {
				to, v := near(draw, first, r.Size), uint64(draw(1<<31))
				if r.Kind == 0 {
					alike(t, r.Push(v), dequeOf(r).Push(v), to)
					alike(t, r.Pop(), dequeOf(r).Pop(), to)
					alike(t, r.Steal(o), dequeOf(r).Steal(), to)
					continue
				}
				alike(t, r.Push(v), ringOf(r).Push(v), to)
				alike(t, r.Pop(), ringOf(r).Pop(), to)
				alike(t, r.Steal(o), ringOf(r).Steal(ringOf(o)), to)
			}
		}
	}
}

// Of rows that are right and of one kind deques may all be targets; rings just those that the ring's chapter allows.
func TestStealOfAllTargets(t *testing.T) {
	draw := drawn(3)
	for _, r := range rights() {
		for _, o := range rights() {
			w, to := r.Steal(o), near(draw, 5, r.Size)
			switch {
			case r.Kind != o.Kind:
				isRefused(t, w)
			case r.Kind == 0:
				alike(t, w, dequeOf(r).Steal(), to)
				goes(t, r.Steal(o), api.Result{V: 9}, reads(r.At, 0), reads(r.At+1, 1), reads(r.At+2, 9), step{cas(r.At, 0, 1), 0, true, nil})
			case r.Size != o.Size || r.At <= o.At+o.Size+1 && o.At <= r.At+r.Size+1:
				isRefused(t, w)
			default:
				alike(t, w, ringOf(r).Steal(ringOf(o)), to)
				goes(t, r.Steal(o), api.Result{V: 9}, reads(o.At+1, 0), reads(o.At, 0), reads(r.At, 0), reads(r.At+1, 1), step{cas(r.At, 0, 1), 0, true, nil},
					reads(r.At+2, 9), step{load(r.At), 1, true, some(9)}, step{cas(r.At, 1, pair(1, 1)), 1, true, some(9)})
			}
		}
	}
}

func TestWalksOfWrongRows(t *testing.T) {
	for _, r := range wrongs() {
		isRefused(t, r.Push(5))
		isRefused(t, r.Pop())
		isRefused(t, r.Peek())
		isRefused(t, r.Steal(r))
		for _, o := range rights() {
			isRefused(t, r.Steal(o))
			isRefused(t, o.Steal(r))
		}
		for _, o := range []local.Row{{}, {Kind: 2, At: 9, Size: 4}, {Kind: 0, At: 9, Size: 3}, {Kind: 1, At: -1, Size: 4}} {
			isRefused(t, r.Steal(o))
		}
	}
}

// To peek

func bit(is bool) uint64 {
	if is {
		return 1
	}
	return 0
}

func TestPeekWrittenOut(t *testing.T) {
	for _, c := range []struct{ first, end, deque, ring uint64 }{
		{0, 0, 0, 0}, {0, 1, 1, 1}, {1, 0, 0, 0}, {5, 5, 0, 0}, {5, 6, 1, 1}, {5, 9, 1, 1}, {5, 4, 0, 0}, {5, 1000, 1, 1},
		{all, 0, 1, 1}, {0, all, 0, 0}, {all, all, 0, 0}, {all - 1, all, 1, 1},
		{0, half - 1, 1, 0}, {0, half, 0, 0}, {half, half + 1, 1, 1}, {half - 1, half, 1, 1}, {half, half - 1, 0, 0}, {3, half + 2, 1, 0}, {3, half + 3, 0, 0},
		{0, turn - 1, 1, 1}, {0, turn, 1, 0}, {0, turn + 1, 1, 0}, {7, turn + 6, 1, 1}, {7, turn + 7, 1, 0}, {turn, 0, 0, 0}, {turn, turn - 1, 0, 0}, {turn - 1, turn, 1, 1},
		{0, round - 1, 1, 0}, {0, round, 1, 0}, {0, round + 1, 1, 1}, {round - 1, round, 1, 1}, {round - 1, 0, 0, 1}, {round - 1, round - 1, 0, 0}, {round, 1, 0, 1}, {round, 0, 0, 0},
		{5<<32 + 6, 6, 0, 0}, {5<<32 + 6, 7, 0, 1}, {6, 5<<32 + 6, 1, 0}, {6, 5<<32 + 7, 1, 1}, {7, 5<<32 + 6, 1, 0}, {5<<32 + 7, 5<<32 + 7, 0, 0}, {5<<32 + 7, 6<<32 + 6, 1, 0},
	} {
		for kind, v := range some(c.deque, c.ring) {
			r := local.Row{Kind: kind, At: 7, Size: 4}
			goes(t, r.Peek(), api.Result{V: v}, reads(7, c.first), reads(8, c.end))
		}
	}
}

// distances are how far an end may be ahead, at all places where that matters.
func distances() []uint64 {
	l := some(0x5555555555555555, 0xaaaaaaaaaaaaaaaa)
	for i := range 64 {
		for by := range uint64(3) {
			l = append(l, 1<<i-1+by, -(1<<i - 1 + by))
		}
	}
	return l
}

func TestPeekOfAllWords(t *testing.T) {
	for kind := range 2 {
		for i, first := range append(firsts(kind), distances()...) {
			r := local.Row{Kind: kind, At: []int{0, 1, 300}[i%3], Size: sizes()[i%8]}
			for _, d := range distances() {
				goes(t, r.Peek(), api.Result{V: bit(countOf(kind, first, first+d) >= 1)}, reads(r.At, first), reads(r.At+1, first+d))
			}
		}
	}
}

func TestPeekOfAllRows(t *testing.T) {
	for kind := range 2 {
		for _, size := range sizes() {
			for at := 0; at <= 65534-size; at++ {
				r := local.Row{Kind: kind, At: at, Size: size}
				goes(t, r.Peek(), api.Result{V: bit(at%3 == 2)}, reads(at, 4), reads(at+1, uint64(3+at%3)))
			}
		}
	}
}

func nextOf(q queue.Line, node uint64) int {
	return q.At + 2 + 2*q.N + int(node)
}

// Of a queue of four nodes: its head is 10, and the nodes' nexts are from 21 on.
func TestPeekOfAQueueWrittenOut(t *testing.T) {
	q := queue.Line{At: 10, N: 4}
	goes(t, local.Peek(q), api.Result{}, reads(10, 1), reads(21, 0))
	goes(t, local.Peek(q), api.Result{V: 1}, reads(10, 1), reads(21, 2))
	goes(t, local.Peek(q), api.Result{V: 1}, reads(10, 2), reads(22, 1))
	goes(t, local.Peek(q), api.Result{V: 1}, reads(10, 4), reads(24, 3))
	// Tags are no matter, whatever they are.
	goes(t, local.Peek(q), api.Result{}, reads(10, pair(5, 3)), reads(23, pair(6, 0)))
	goes(t, local.Peek(q), api.Result{}, reads(10, pair(round-1, 1)), reads(21, pair(round-1, 0)))
	goes(t, local.Peek(q), api.Result{V: 1}, reads(10, pair(round-1, 1)), reads(21, pair(turn, 4)))
	// What is next is just held against 0.
	for _, node := range some(5, 6, 257, 65537, turn, round-1) {
		goes(t, local.Peek(q), api.Result{V: 1}, reads(10, 1), reads(21, node))
		goes(t, local.Peek(q), api.Result{V: 1}, reads(10, 1), reads(21, pair(3, node)))
	}
	// A head whose node is none.
	for _, node := range some(0, 5, 6, 257, 258, 65537, 65538, turn, turn+1, round-3, round-1) {
		for _, tag := range some(0, 1, 2, turn, round-1) {
			goes(t, local.Peek(q), api.Result{Code: api.Broken}, reads(10, pair(tag, node)))
		}
	}
}

func TestPeekOfAllQueues(t *testing.T) {
	for _, q := range lines() {
		n := uint64(q.N)
		for _, node := range append(some(1, 2, n-1, n), distances()...) {
			node %= round
			if node < 1 || node > n {
				goes(t, local.Peek(q), api.Result{Code: api.Broken}, reads(q.At, pair(node, node)))
				continue
			}
			for _, tag := range some(0, 1, 7, turn, round-1) {
				goes(t, local.Peek(q), api.Result{}, reads(q.At, pair(tag, node)), reads(nextOf(q, node), pair(tag, 0)))
				goes(t, local.Peek(q), api.Result{V: 1}, reads(q.At, pair(tag, node)), reads(nextOf(q, node), pair(tag, node)))
				goes(t, local.Peek(q), api.Result{V: 1}, reads(q.At, pair(tag, node)), reads(nextOf(q, node), pair(tag, turn)))
			}
		}
	}
}

// Each node is told by its own next.
func TestPeekAtAllNodes(t *testing.T) {
	for n := 2; n <= 4096; n = n*3/2 + 1 {
		q := queue.Line{At: n % 5, N: n}
		for node := range uint64(n + 2) {
			if node == 0 || node > uint64(n) {
				goes(t, local.Peek(q), api.Result{Code: api.Broken}, reads(q.At, node))
				continue
			}
			goes(t, local.Peek(q), api.Result{V: node % 2}, reads(q.At, node), reads(nextOf(q, node), node%2*5))
		}
	}
}

func TestPeekOfWrongQueues(t *testing.T) {
	for _, q := range wrongLines() {
		isRefused(t, local.Peek(q))
	}
}

// peeks are all kinds of peeking, side by side, and where each one looks when it was given node 1, or a first number 1.
func peeks() ([]*walk.Walk, [][2]int) {
	return []*walk.Walk{local.Row{Kind: 0, At: 4, Size: 4}.Peek(), local.Row{Kind: 1, At: 4, Size: 4}.Peek(), local.Peek(queue.Line{At: 4, N: 3})}, [][2]int{{4, 5}, {4, 5}, {4, 13}}
}

// Whether a Load won is no matter.
func TestPeekStrangeAnswers(t *testing.T) {
	for v := range uint64(2) {
		l, at := peeks()
		for i, w := range l {
			goes(t, w, api.Result{V: v}, step{load(at[i][0]), 1, false, nil}, step{load(at[i][1]), v * 2, v == 0, nil})
		}
	}
}

// 4: one that is broken has ended with that code.
func TestPeekBroken(t *testing.T) {
	for steps := range 2 {
		l, at := peeks()
		for i, w := range l {
			goesOn(t, w, []step{reads(at[i][0], 1)}[:steps]...)
			w.Break(api.Abort)
			goes(t, w, api.Result{Code: api.Abort})
		}
	}
}

// R6: what is kept is kept by each walk for itself.
func TestPeeksSideBySide(t *testing.T) {
	l, at := peeks()
	more, _ := peeks()
	for i, w := range l {
		goesOn(t, w, reads(at[i][0], 1))
	}
	for i, w := range more {
		goes(t, w, api.Result{}, reads(at[i][0], 1), reads(at[i][1], 0))
	}
	for i, w := range l {
		goes(t, w, api.Result{V: 1}, reads(at[i][1], 2))
	}
}

// A walk goes into them, and wants and ends as they do.
func TestPeekGoneInto(t *testing.T) {
	r := local.Row{Kind: 1, At: 20, Size: 2}
	w := walk.New(func(w *walk.Walk) {
		w.Into(r.Peek(), func(x api.Result) {
			w.Into(local.Peek(queue.Line{At: 30, N: 2}), func(y api.Result) { w.End(api.Result{V: 10*x.V + y.V}) })
		})
	})
	goes(t, w, api.Result{V: 11}, reads(20, pair(3, 4)), reads(21, 5), reads(30, 2), reads(38, 1))
}

// Of a cell that isn't there a step breaks it.
func TestOnNoCell(t *testing.T) {
	for cells := 1; cells <= 8; cells++ {
		for kind := range 2 {
			m := memory(t, slices.Repeat(some(1), cells)...)
			l, _ := loom.New(m, 1)
			w := local.Row{Kind: kind, At: 6, Size: 2}.Peek()
			told(t, l.Start(0, w), api.Fine)
			if n, e := l.Alone(0, 9); n != min(max(1, cells-5), 2) || e != api.Fine {
				t.Fatal(cells, n, e)
			}
			isEnded(t, w, api.Result{Code: []api.Code{api.Broken, api.Fine}[cells/8]})
		}
	}
}
