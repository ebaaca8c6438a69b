package queue_test

import (
	"math"
	"slices"
	"testing"

	"coachyard/api"
	"coachyard/loom"
	"coachyard/queue"
	"coachyard/walk"
)

// P9.2

// step is an access that a walk must want, what it must hold then, and what is given to it.
type step struct {
	want api.Access
	v    uint64
	won  bool
	held []uint64
}

// follow gives w what the steps tell, and looks that it wants and holds just these, and doesn't end ahead of them.
func follow(t *testing.T, w *walk.Walk, steps ...step) {
	t.Helper()
	for i, s := range steps {
		if a, ok := w.Want(); !ok || a != s.want {
			t.Fatalf("step %d: it wants %+v, %t, not %+v", i, a, ok, s.want)
		}
		if r, ok := w.Result(); ok || r.Code != 0 || r.V != 0 || len(r.L) != 0 {
			t.Fatalf("step %d: it has ended with %+v", i, r)
		}
		holds(t, w, s.held...)
		w.Give(s.v, s.won)
	}
}

// goes looks also that it ends behind them.
func goes(t *testing.T, w *walk.Walk, end api.Result, steps ...step) {
	t.Helper()
	follow(t, w, steps...)
	isEnded(t, w, end)
	// What is given then changes nothing.
	w.Give(3, true)
	w.Give(0, false)
	isEnded(t, w, end)
}

func isEnded(t *testing.T, w *walk.Walk, end api.Result) {
	t.Helper()
	if r, ok := w.Result(); !ok || r.Code != end.Code || r.V != end.V || len(r.L) != 0 {
		t.Fatalf("it ended with %+v, %t, not with %+v", r, ok, end)
	}
	if a, ok := w.Want(); ok || a != (api.Access{}) {
		t.Fatalf("it has ended, and wants %+v", a)
	}
	holds(t, w)
}

func holds(t *testing.T, w *walk.Walk, want ...uint64) {
	t.Helper()
	if l := w.Held(); !slices.Equal(l, want) {
		t.Fatalf("it holds %d, not %d", l, want)
	}
}

// Written out, for those who don't trust the words' reckoning: the arena's cells are 12 to 16, the tasks are from 17, the nexts from 21 on.
func TestPutWrittenOut(t *testing.T) {
	q := queue.Line{At: 10, N: 4}
	h := some(50)
	taken := []step{{load(12), 5<<32 + 3, true, h}, {load(15), 7<<32 + 4, true, h}, {cas(12, 5<<32+3, 6<<32+4), 0, true, h},
		{store(19, 50), 1, true, h}, {load(23), 8<<32 + 1, true, h}, {store(23, 9<<32), 2, true, h}}
	with := func(more ...step) []step { return append(slices.Clone(taken), more...) }
	goes(t, q.Put(h), api.Result{}, with(step{load(11), 1, true, h}, step{load(21), 0, true, h}, step{load(11), 1, true, h},
		step{cas(21, 0, 1<<32+3), 0, true, h}, step{cas(11, 1, 1<<32+3), 0, true, nil})...)
	// Another one moved the tail meanwhile: it is no matter.
	goes(t, q.Put(h), api.Result{}, with(step{load(11), 1, true, h}, step{load(21), 0, true, h}, step{load(11), 1, true, h},
		step{cas(21, 0, 1<<32+3), 0, true, h}, step{cas(11, 1, 1<<32+3), 1<<32 + 3, false, nil})...)
	// Tags go round.
	goes(t, q.Put(h), api.Result{}, with(step{load(11), all<<32 + 4, true, h}, step{load(24), all << 32, true, h}, step{load(11), all<<32 + 4, true, h},
		step{cas(24, all<<32, 3), 0, true, h}, step{cas(11, all<<32+4, 3), 0, true, nil})...)
	// The tail is another one by then, and yet another one: its node, or its tag alone.
	goes(t, q.Put(h), api.Result{}, with(step{load(11), 1, true, h}, step{load(21), 0, true, h}, step{load(11), 1<<32 + 2, true, h}, step{load(22), 0, true, h},
		step{load(11), 2<<32 + 2, true, h}, step{load(22), 0, true, h}, step{load(11), 2<<32 + 2, true, h}, step{cas(22, 0, 1<<32+3), 0, true, h}, step{cas(11, 2<<32+2, 3<<32+3), 0, true, nil})...)
	// Another one was faster: all is looked at anew.
	goes(t, q.Put(h), api.Result{}, with(step{load(11), 1, true, h}, step{load(21), 0, true, h}, step{load(11), 1, true, h}, step{cas(21, 0, 1<<32+3), 1<<32 + 2, false, h},
		step{load(11), 1, true, h}, step{load(21), 1<<32 + 2, true, h}, step{load(11), 1, true, h}, step{cas(11, 1, 1<<32+2), 0, true, h},
		step{load(11), 1<<32 + 2, true, h}, step{load(22), 4 << 32, true, h}, step{load(11), 1<<32 + 2, true, h}, step{cas(22, 4<<32, 5<<32+3), 0, true, h}, step{cas(11, 1<<32+2, 2<<32+3), 0, true, nil})...)
	// The tail lags behind, and others move it.
	goes(t, q.Put(h), api.Result{}, with(step{load(11), 1, true, h}, step{load(21), 4, true, h}, step{load(11), 1, true, h}, step{cas(11, 1, 1<<32+4), 9, false, h},
		step{load(11), 9<<32 + 4, true, h}, step{load(24), 0, true, h}, step{load(11), 9<<32 + 4, true, h}, step{cas(24, 0, 1<<32+3), 0, true, h}, step{cas(11, 9<<32+4, 10<<32+3), 0, true, nil})...)
	// A node that is none: of the tail, of the tail that it is then, of the next.
	for _, node := range some(0, 5, 6, all, 1<<31, 1<<16+1, 1<<8+1) {
		goes(t, q.Put(h), api.Result{Code: api.Broken}, with(step{load(11), 3<<32 + node, true, h})...)
		goes(t, q.Put(h), api.Result{Code: api.Broken}, with(step{load(11), 1, true, h}, step{load(21), 0, true, h}, step{load(11), 3<<32 + node, true, h})...)
		if node != 0 {
			goes(t, q.Put(h), api.Result{Code: api.Broken}, with(step{load(11), 1, true, h}, step{load(21), 3<<32 + node, true, h}, step{load(11), 1, true, h})...)
			goes(t, q.Put(h), api.Result{Code: api.Broken}, with(step{load(11), 1, true, h}, step{load(21), 3<<32 + node, true, h}, step{load(11), 2, true, h}, step{load(22), node, true, h}, step{load(11), 2, true, h})...)
		}
	}
}

func TestPutOfMoreWrittenOut(t *testing.T) {
	q := queue.Line{At: 10, N: 4}
	h := some(50, 51, 52)
	taken := []step{{load(12), 2, true, h}, {load(14), 3, true, h}, {cas(12, 2, 1<<32+3), 2, true, h},
		{load(12), 1<<32 + 3, true, h}, {load(15), 4, true, h}, {cas(12, 1<<32+3, 2<<32+4), 7<<32 + 1, false, h}, {load(13), 3, true, h}, {cas(12, 7<<32+1, 8<<32+3), 0, true, h}}
	with := func(more ...step) []step { return append(slices.Clone(taken), more...) }
	goes(t, q.Put(h), api.Result{}, with(step{load(12), 8<<32 + 3, true, h}, step{load(15), 4, true, h}, step{cas(12, 8<<32+3, 9<<32+4), 0, true, h},
		step{store(18, 50), 0, true, h}, step{load(22), 0, true, h}, step{store(22, 1<<32+1), 0, true, h},
		step{store(17, 51), 0, true, h}, step{load(21), 5<<32 + 4, true, h}, step{store(21, 6<<32+3), 0, true, h},
		step{store(19, 52), 0, true, h}, step{load(23), all<<32 + all, true, h}, step{store(23, 0), 0, true, h},
		step{load(11), 4, true, h}, step{load(24), 6 << 32, true, h}, step{load(11), 4, true, h}, step{cas(24, 6<<32, 7<<32+2), 0, true, h}, step{cas(11, 4, 1<<32+3), 0, true, nil})...)
	// None is left, or what is left is none: those that it took go back, in the order in which they were taken.
	for node, code := range map[uint64]api.Code{0: api.NoMem, 5: api.Broken, all: api.Broken} {
		goes(t, q.Put(h), api.Result{Code: code}, with(step{load(12), 8<<32 + node, true, h},
			step{load(12), 9<<32 + 4, true, h}, step{store(14, 4), 0, true, h}, step{cas(12, 9<<32+4, 10<<32+2), 0, true, h},
			step{load(12), 3, true, h}, step{store(13, 3), 0, true, h}, step{cas(12, 3, 1<<32+1), 4, false, h}, step{store(13, 4), 0, true, h}, step{cas(12, 4, 1<<32+1), 0, true, h})...)
		goes(t, q.Put(h), api.Result{Code: code}, step{load(12), node, true, h})
		goes(t, q.Put(h), api.Result{Code: code}, step{load(12), 2, true, h}, step{load(14), 0, true, h}, step{cas(12, 2, 1<<32), node, false, h})
	}
}

func TestTakeWrittenOut(t *testing.T) {
	q := queue.Line{At: 10, N: 4}
	goes(t, q.Take(), api.Result{Code: api.Empty}, step{load(10), 1, true, nil}, step{load(11), 1, true, nil}, step{load(21), 0, true, nil}, step{load(10), 1, true, nil})
	// Whatever the tags are.
	goes(t, q.Take(), api.Result{Code: api.Empty}, step{load(10), 3<<32 + 1, true, nil}, step{load(11), all<<32 + 1, true, nil}, step{load(21), 5 << 32, true, nil}, step{load(10), 3<<32 + 1, true, nil})
	took := []step{{load(10), 1, true, nil}, {load(11), 2, true, nil}, {load(21), 7<<32 + 2, true, nil}, {load(10), 1, true, nil}, {load(18), 60, true, nil},
		{cas(10, 1, 1<<32+2), 0, true, nil}, {load(12), 4, true, some(60)}, {store(13, 4), 0, true, some(60)}}
	goes(t, q.Take(), api.Result{V: 60}, append(slices.Clone(took), step{cas(12, 4, 1<<32+1), 0, true, some(60)})...)
	goes(t, q.Take(), api.Result{V: 60}, append(slices.Clone(took), step{cas(12, 4, 1<<32+1), 3, false, some(60)}, step{store(13, 3), 0, true, some(60)}, step{cas(12, 3, 1<<32+1), 0, true, some(60)})...)
	// Tags go round.
	goes(t, q.Take(), api.Result{V: 60}, step{load(10), all<<32 + 4, true, nil}, step{load(11), 2, true, nil}, step{load(24), 3, true, nil}, step{load(10), all<<32 + 4, true, nil}, step{load(19), 60, true, nil},
		step{cas(10, all<<32+4, 3), 0, true, nil}, step{load(12), all << 32, true, some(60)}, step{store(16, 0), 0, true, some(60)}, step{cas(12, all<<32, 4), 0, true, some(60)})
	// Another one took it: all is looked at anew.
	goes(t, q.Take(), api.Result{Code: api.Empty}, step{load(10), 1, true, nil}, step{load(11), 2, true, nil}, step{load(21), 2, true, nil}, step{load(10), 1, true, nil}, step{load(18), 60, true, nil},
		step{cas(10, 1, 1<<32+2), 1<<32 + 2, false, nil}, step{load(10), 1<<32 + 2, true, nil}, step{load(11), 2, true, nil}, step{load(22), 0, true, nil}, step{load(10), 1<<32 + 2, true, nil})
	// The head is another one by then, its tag alone, then its node: the tail is looked at anew, too.
	goes(t, q.Take(), api.Result{Code: api.Empty}, step{load(10), 1, true, nil}, step{load(11), 1, true, nil}, step{load(21), 0, true, nil}, step{load(10), 2<<32 + 1, true, nil},
		step{load(11), 1, true, nil}, step{load(21), 0, true, nil}, step{load(10), 3<<32 + 4, true, nil},
		step{load(11), 4, true, nil}, step{load(24), 0, true, nil}, step{load(10), 3<<32 + 4, true, nil})
	// The tail lags behind, and is moved, by whomever.
	for _, won := range []bool{true, false} {
		goes(t, q.Take(), api.Result{Code: api.Empty}, step{load(10), 1, true, nil}, step{load(11), 5<<32 + 1, true, nil}, step{load(21), 2, true, nil}, step{load(10), 1, true, nil},
			step{cas(11, 5<<32+1, 6<<32+2), 0, won, nil}, step{load(10), 3, true, nil}, step{load(11), 3, true, nil}, step{load(23), 0, true, nil}, step{load(10), 3, true, nil})
	}
	// The tail isn't there, and yet nothing is next: all is looked at anew. (The tail's node may be none: it is just another one.)
	for _, tail := range some(2, 0, 5, all) {
		goes(t, q.Take(), api.Result{Code: api.Empty}, step{load(10), 1, true, nil}, step{load(11), tail, true, nil}, step{load(21), 9 << 32, true, nil}, step{load(10), 1, true, nil},
			step{load(10), 2, true, nil}, step{load(11), 2, true, nil}, step{load(22), 0, true, nil}, step{load(10), 2, true, nil})
	}
	// A node that is none: of the head, of the head that it is then, of the next, wherever the tail is.
	for _, node := range some(0, 5, 6, all, 1<<31, 1<<16+1, 1<<8+1) {
		goes(t, q.Take(), api.Result{Code: api.Broken}, step{load(10), 3<<32 + node, true, nil})
		goes(t, q.Take(), api.Result{Code: api.Broken}, step{load(10), 1, true, nil}, step{load(11), 1, true, nil}, step{load(21), 0, true, nil}, step{load(10), 3<<32 + node, true, nil})
		if node != 0 {
			goes(t, q.Take(), api.Result{Code: api.Broken}, step{load(10), 1, true, nil}, step{load(11), 2, true, nil}, step{load(21), node, true, nil}, step{load(10), 1, true, nil})
			goes(t, q.Take(), api.Result{Code: api.Broken}, step{load(10), 1, true, nil}, step{load(11), 1, true, nil}, step{load(21), node, true, nil}, step{load(10), 1, true, nil})
		}
	}
}

// teller does the chapter's steps one by one, and writes down what is wanted, held and told at each.
type teller struct {
	tell  func(a api.Access) (uint64, bool)
	most  int // behind so many steps it is left
	steps []step
	held  []uint64
	queue.Line
}

// left is thrown where a walk isn't gone to its end.
type left struct{}

func (o *teller) do(a api.Access) (uint64, bool) {
	if len(o.steps) == o.most {
		panic(left{})
	}
	v, won := o.tell(a)
	o.steps = append(o.steps, step{a, v, won, slices.Clone(o.held)})
	return v, won
}

func (o *teller) load(cell int) uint64 {
	v, _ := o.do(load(cell))
	return v
}

func (o *teller) cas(cell int, from, to uint64) bool {
	_, won := o.do(cas(cell, from, to))
	return won
}

func (o *teller) node(u uint64) bool {
	return isNode(o.Line, nodeOf(u))
}

func (o *teller) takeNode() (uint64, api.Code) {
	h := o.load(o.At + 2)
	for {
		if nodeOf(h) == 0 {
			return 0, api.NoMem
		}
		if !o.node(h) {
			return 0, api.Broken
		}
		n := o.load(o.At + 2 + int(nodeOf(h)))
		was, won := o.do(cas(o.At+2, h, raised(h, nodeOf(n))))
		if won {
			return nodeOf(h), api.Fine
		}
		h = was
	}
}

func (o *teller) putNode(i uint64) {
	h := o.load(o.At + 2)
	for {
		o.do(store(o.At+2+int(i), nodeOf(h)))
		was, won := o.do(cas(o.At+2, h, raised(h, i)))
		if won {
			return
		}
		h = was
	}
}

func (o *teller) put(l []uint64) api.Result {
	o.held = l
	var nodes []uint64
	for range l {
		node, code := o.takeNode()
		if code != api.Fine {
			for _, i := range nodes {
				o.putNode(i)
			}
			return api.Result{Code: code}
		}
		nodes = append(nodes, node)
	}
	for k, i := range nodes {
		o.do(store(taskCell(o.Line, i), l[k]))
		x, behind := o.load(nextCell(o.Line, i)), uint64(0)
		if k < len(nodes)-1 {
			behind = nodes[k+1]
		}
		o.do(store(nextCell(o.Line, i), raised(x, behind)))
	}
	for {
		code, over := o.lay(nodes)
		if over {
			return api.Result{Code: code}
		}
	}
}

// lay does the steps from the 3rd one on, till they go on at 3, or it is over.
func (o *teller) lay(nodes []uint64) (api.Code, bool) {
	t := o.load(o.At + 1)
	for {
		if !o.node(t) {
			return api.Broken, true
		}
		n := o.load(nextCell(o.Line, nodeOf(t)))
		again := o.load(o.At + 1)
		switch {
		case again != t:
			t = again
		case nodeOf(n) == 0:
			if !o.cas(nextCell(o.Line, nodeOf(t)), n, raised(n, nodes[0])) {
				return 0, false
			}
			o.held = nil
			o.cas(o.At+1, t, raised(t, nodes[len(nodes)-1]))
			return api.Fine, true
		case !o.node(n):
			return api.Broken, true
		default:
			o.cas(o.At+1, t, raised(t, nodeOf(n)))
			return 0, false
		}
	}
}

func (o *teller) take() api.Result {
	for {
		r, over := o.turn()
		if over {
			return r
		}
	}
}

// turn does the steps of a taking walk, till they go on at 1, or it is over.
func (o *teller) turn() (api.Result, bool) {
	h := o.load(o.At)
	for {
		if !o.node(h) {
			return api.Result{Code: api.Broken}, true
		}
		t := o.load(o.At + 1)
		n := o.load(nextCell(o.Line, nodeOf(h)))
		again := o.load(o.At)
		if again != h {
			h = again
			continue
		}
		if nodeOf(n) == 0 {
			return api.Result{Code: api.Empty}, nodeOf(t) == nodeOf(h)
		}
		if !o.node(n) {
			return api.Result{Code: api.Broken}, true
		}
		if nodeOf(t) == nodeOf(h) {
			o.cas(o.At+1, t, raised(t, nodeOf(n)))
			return api.Result{}, false
		}
		v := o.load(taskCell(o.Line, nodeOf(n)))
		if !o.cas(o.At, h, raised(h, nodeOf(n))) {
			return api.Result{}, false
		}
		o.held = some(v)
		o.putNode(nodeOf(h))
		return api.Result{V: v}, true
	}
}

// reckon tells what comes of a walk that the words tell, all its steps, and whether it came to its end.
func reckon(q queue.Line, most int, tell func(a api.Access) (uint64, bool), words func(o *teller) api.Result) (end api.Result, steps []step, over bool) {
	o := &teller{tell: tell, most: most, Line: q}
	defer func() {
		steps = o.steps
		if x := recover(); x != nil {
			_ = x.(left)
		}
	}()
	return words(o), nil, true
}

// both are a walk by the words, and as it is.
type both struct {
	words func(o *teller) api.Result
	begin func() *walk.Walk
}

// walks are a Take, and Puts of so many tasks.
func walks(q queue.Line, first uint64, sizes ...int) []both {
	l := []both{{func(o *teller) api.Result { return o.take() }, q.Take}}
	for _, n := range sizes {
		var tasks []uint64
		for k := range n {
			tasks = append(tasks, first+uint64(k))
		}
		l = append(l, both{func(o *teller) api.Result { return o.put(tasks) }, func() *walk.Walk { return q.Put(tasks) }})
	}
	return l
}

// tells tells pairs whose nodes are at the ends, most often; a cell stays what it was, most often; a Cas is lost more or less often.
func tells(q queue.Line, losses int, draw func(int) int) func(a api.Access) (uint64, bool) {
	was := map[int]uint64{}
	return func(a api.Access) (uint64, bool) {
		if _, ok := was[a.Cell]; !ok || draw(5) == 0 {
			was[a.Cell] = drawnWord(q, a.Cell, draw)
		}
		return was[a.Cell], draw(8) >= losses
	}
}

func drawnWord(q queue.Line, cell int, draw func(int) int) uint64 {
	if cell > q.At+2+q.N && cell <= q.At+2+2*q.N {
		return uint64(draw(1<<30))<<34 | uint64(draw(1000))
	}
	node := some(1, 2, uint64(q.N), uint64(q.N)-1)[draw(4)]
	if cell > q.At+2+2*q.N && draw(2) == 0 || draw(40) == 0 {
		node = 0
	}
	if draw(80) == 0 {
		node = some(uint64(q.N)+1, all, 1<<31, 1<<16+1)[draw(4)]
	}
	return pair(some(0, 1, 1<<31-1, 1<<31, all-1, all)[draw(6)], node)
}

// Whatever is told, each walk does what the chapter's words say.
func TestStepByStep(t *testing.T) {
	kinds := map[[2]int]int{}
	for n, q := range []queue.Line{{0, 2}, {9, 3}, {65524, 3}, {100, 50}, {53245, 4096}, {0, 4096}} {
		draw := drawn(uint64(n))
		for again := range 1500 {
			for k, c := range walks(q, uint64(draw(1<<30)), 1, 2, 3+draw(10)) {
				end, steps, over := reckon(q, 5000, tells(q, again%5, draw), c.words)
				if !over {
					t.Fatal("the words never end")
				}
				goes(t, c.begin(), end, steps...)
				kinds[[2]int{k, int(end.Code)}]++
			}
		}
	}
	for _, k := range [][2]int{{0, 0}, {0, 5}, {0, 9}, {1, 0}, {1, 7}, {1, 9}, {2, 0}, {2, 7}, {2, 9}, {3, 0}, {3, 7}, {3, 9}} {
		if kinds[k] < 100 {
			t.Errorf("the walk %d ended with %d only %d times", k[0], k[1], kinds[k])
		}
	}
	if len(kinds) != 12 {
		t.Error(kinds)
	}
}

// stands tells always the same pairs, but that a Cas is lost at first, and that the ends are other ones at the second look.
func stands(q queue.Line, head, tail, next, free uint64, losses, looks int) func(a api.Access) (uint64, bool) {
	return func(a api.Access) (uint64, bool) {
		if a.Kind == api.Cas {
			losses--
			return free, losses < 0
		}
		if a.Cell == q.At || a.Cell == q.At+1 {
			looks--
		}
		switch {
		case a.Cell == q.At && looks < 0:
			return head, true
		case a.Cell == q.At:
			return pair(8, nodeOf(head)), true
		case a.Cell == q.At+1 && looks < 0:
			return tail, false
		case a.Cell == q.At+1:
			return pair(8, nodeOf(tail)), false
		case a.Cell == q.At+2:
			return free, true
		case a.Cell > q.At+2+2*q.N:
			return next, true
		}
		return uint64(a.Cell), false
	}
}

// All nodes that heads, tails, nexts and the arena's head can tell, also such that can't be so, where walks look anew without end.
func TestStepByStepOfAllNodes(t *testing.T) {
	q := queue.Line{At: 3, N: 3}
	endless := 0
	for i := range 5 * 5 * 5 * 5 {
		head, tail, next, free := uint64(i%5), uint64(i/5%5), uint64(i/25%5), uint64(i/125)
		for _, tag := range some(0, all) {
			for losses := range 4 {
				for looks := range 4 {
					for _, c := range walks(q, 99, 1, 2) {
						tell := stands(q, pair(tag, head), pair(tag, tail), pair(tag, next), pair(tag, free), losses, looks)
						end, steps, over := reckon(q, 40, tell, c.words)
						if over {
							goes(t, c.begin(), end, steps...)
							continue
						}
						endless++
						w := c.begin()
						follow(t, w, steps...)
						if _, ok := w.Want(); !ok {
							t.Fatal("it wants nothing")
						}
					}
				}
			}
		}
	}
	if endless == 0 {
		t.Error("all have ended")
	}
}

// R1: answers without end; a walk goes on, and each giving ends.
func TestAnswersWithoutEnd(t *testing.T) {
	q := queue.Line{At: 0, N: 4}
	for _, w := range []*walk.Walk{q.Take(), q.Put(some(5)), q.Put(make([]uint64, 300))} {
		for i := range 30000 {
			w.Give(pair(uint64(i), 1), false)
		}
		if _, ok := w.Result(); ok {
			t.Error("it never won, and has ended")
		}
		w.Break(api.Abort)
		isEnded(t, w, api.Result{Code: api.Abort})
	}
}

// A task may be any word, and none that is met elsewhere is taken for another thing.
func TestTasksOfAllKinds(t *testing.T) {
	q := queue.Line{At: 1, N: 4}
	m := memory(t, append(some(9), begun(4)...)...)
	l, _ := loom.New(m, 1)
	tasks := some(0, 1, 2, 3, 4, 5, all-1, all, round, round+1, 1<<63-1, 1<<63, math.MaxUint64-1, math.MaxUint64)
	for i, v := range tasks {
		row := some(v, tasks[len(tasks)-1-i], v)
		alone(t, l, q.Put(row), 3*3+3*3+5, api.Result{})
		isIn(t, q, m, row...)
		for k, v := range row {
			isIn(t, q, m, row[k:]...)
			// A Put moves the tail behind all of its nodes, so that nobody else has to.
			alone(t, l, q.Take(), 9, api.Result{V: v})
		}
		alone(t, l, q.Take(), 4, api.Result{Code: api.Empty})
	}
}

// alone does a walk by itself, and looks how many steps it takes, and what comes of it.
func alone(t *testing.T, l *loom.Loom, w *walk.Walk, steps int, end api.Result) {
	t.Helper()
	told(t, l.Start(0, w), api.Fine)
	if n, e := l.Alone(0, 5000); n != steps || e != api.Fine {
		t.Fatalf("it took %d steps, %d, not %d", n, e, steps)
	}
	isEnded(t, w, end)
}

func TestWalksOfWrongQueues(t *testing.T) {
	for _, q := range wrong() {
		for _, w := range []*walk.Walk{q.Take(), q.Put(some(5)), q.Put(some(5, 6)), q.Put(nil), q.Put(some()), q.Put(make([]uint64, 300)), q.Put(make([]uint64, 301))} {
			goes(t, w, api.Result{Code: api.Arg})
		}
	}
}

// None are too few, 300 may be, 301 are too many, however many nodes there are.
func TestPutOfSoMany(t *testing.T) {
	for _, q := range right() {
		goes(t, q.Put(nil), api.Result{Code: api.Arg})
		goes(t, q.Put(some()), api.Result{Code: api.Arg})
		for _, n := range []int{301, 302, 511, 512, 556, 4096, 5000, 1 << 17} {
			goes(t, q.Put(make([]uint64, n)), api.Result{Code: api.Long})
		}
		for _, n := range []int{1, 2, 255, 256, 299, 300} {
			w := q.Put(make([]uint64, n))
			if a, ok := w.Want(); !ok || a != load(q.At+2) {
				t.Fatalf("%+v, %d tasks: it wants %+v, %t", q, n, a, ok)
			}
			holds(t, w, make([]uint64, n)...)
		}
	}
}

// As many as can be, and one more than there are nodes for.
func TestPutOfTheMost(t *testing.T) {
	for _, n := range []int{300, 301, 302, 4096} {
		q := queue.Line{At: 0, N: n}
		m := filled(t, 3*n+3, 0)
		told(t, q.Init(m), api.Fine)
		l, _ := loom.New(m, 1)
		var row []uint64
		for i := range uint64(300) {
			row = append(row, i*7+1)
		}
		if n == 300 {
			alone(t, l, q.Put(row), 299*3+1+299*3, api.Result{Code: api.NoMem})
			isIn(t, q, m)
			isFree(t, q, m, fallen(2, 300)...)
			continue
		}
		alone(t, l, q.Put(row), 300*6+5, api.Result{})
		isIn(t, q, m, row...)
		isFree(t, q, m, numbers(302, n)...)
		alone(t, l, q.Take(), 9, api.Result{V: 1})
		isFree(t, q, m, append([]int{1}, numbers(302, n)...)...)
	}
}

// fallen are the numbers that were put back one by one, the last one of which is the first then.
func fallen(from, to int) []int {
	l := numbers(from, to)
	slices.Reverse(l)
	return l
}

// R4: what is handed in isn't kept, and stays; what is told is the caller's.
func TestPutKeepsNothing(t *testing.T) {
	q := queue.Line{At: 0, N: 4}
	m := memory(t, begun(4)...)
	l, _ := loom.New(m, 1)
	row := append(make([]uint64, 0, 9), 7, 8, 9)
	w := q.Put(row)
	spoil(row)
	spoil(w.Held())
	holds(t, w, 7, 8, 9)
	told(t, l.Start(0, w), api.Fine)
	for range 10 {
		told(t, l.Pick(0), api.Fine)
		spoil(w.Held())
	}
	spoil(row)
	l.Alone(0, 90)
	isEnded(t, w, api.Result{})
	isIn(t, q, m, 7, 8, 9)
	alone(t, l, q.Take(), 9, api.Result{V: 7})
	row = some(5, 6)
	alone(t, l, q.Put(row), 3+1+3, api.Result{Code: api.NoMem})
	if !slices.Equal(row, some(5, 6)) {
		t.Error("what was handed in is", row)
	}
}

func TestTakeKeepsNothing(t *testing.T) {
	q := queue.Line{At: 0, N: 3}
	w := q.Take()
	for _, v := range some(1, 2, 2, 1, 60, 0) {
		w.Give(v, true)
	}
	spoil(w.Held())
	holds(t, w, 60)
	for range 3 {
		w.Give(0, true)
	}
	isEnded(t, w, api.Result{V: 60})
}

// They hold nothing once they have ended, by whomever.
func TestBrokenFromOutside(t *testing.T) {
	q := queue.Line{At: 3, N: 3}
	draw := drawn(5)
	for range 300 {
		for _, c := range walks(q, 55, 1, 2, 3) {
			_, steps, _ := reckon(q, 99, tells(q, 2, draw), c.words)
			n := draw(len(steps))
			w := c.begin()
			follow(t, w, steps[:n]...)
			holds(t, w, steps[n].held...)
			w.Break(api.Lost)
			goes(t, w, api.Result{Code: api.Lost})
		}
	}
}

// A loom breaks those that want a cell that isn't there.
func TestWithoutCells(t *testing.T) {
	q := queue.Line{At: 3, N: 3}
	whole := append(some(9, 9, 9), begun(3)...)
	for n := 1; n <= len(whole); n++ {
		for _, c := range []struct {
			w    *walk.Walk
			most int // so many cells are too few for it
		}{{q.Put(some(5)), 13}, {q.Put(some(5, 6)), 14}, {q.Take(), 12}} {
			m := memory(t, whole[:n]...)
			l, _ := loom.New(m, 1)
			told(t, l.Start(0, c.w), api.Fine)
			l.Alone(0, 90)
			r, ok := c.w.Result()
			if !ok || (r.Code == api.Broken) != (n <= c.most) {
				t.Errorf("of %d cells: %+v, %t", n, r, ok)
			}
			holds(t, c.w)
		}
	}
}

// R6: what is kept is kept by each walk for itself.
func TestSideBySide(t *testing.T) {
	type under struct {
		w     *walk.Walk
		end   api.Result
		steps []step
	}
	var l []under
	draw := drawn(3)
	for i, q := range []queue.Line{{0, 3}, {4, 3}, {0, 2}, {7, 5}} {
		for range 20 {
			for _, c := range walks(q, uint64(i*100), 1, 2, 3) {
				end, steps, over := reckon(q, 5000, tells(q, i, draw), c.words)
				if over {
					l = append(l, under{c.begin(), end, steps})
				}
			}
		}
	}
	for i := range 5000 {
		for _, u := range l {
			if i < len(u.steps) {
				follow(t, u.w, u.steps[i])
			}
			if i >= len(u.steps)-1 && i < len(u.steps)+2 {
				isEnded(t, u.w, u.end)
			}
		}
	}
}

// A walk goes into them, wants and ends as they do, and holds what they hold.
func TestGoneInto(t *testing.T) {
	q := queue.Line{At: 0, N: 2}
	w := walk.New(func(w *walk.Walk) {
		w.Hold(some(1))
		w.Into(q.Put(some(2)), func(p api.Result) {
			w.Into(q.Take(), func(r api.Result) { w.Hold(nil); w.End(api.Result{Code: p.Code, V: r.V + 40}) })
		})
	})
	goes(t, w, api.Result{V: 42},
		step{load(2), 2, true, some(1, 2)}, step{load(4), 0, true, some(1, 2)}, step{cas(2, 2, 1<<32), 0, true, some(1, 2)},
		step{store(6, 2), 0, true, some(1, 2)}, step{load(8), 0, true, some(1, 2)}, step{store(8, 1<<32), 0, true, some(1, 2)},
		step{load(1), 1, true, some(1, 2)}, step{load(7), 0, true, some(1, 2)}, step{load(1), 1, true, some(1, 2)}, step{cas(7, 0, 1<<32+2), 0, true, some(1, 2)}, step{cas(1, 1, 1<<32+2), 0, true, some(1)},
		step{load(0), 1, true, some(1)}, step{load(1), 1<<32 + 2, true, some(1)}, step{load(7), 1<<32 + 2, true, some(1)}, step{load(0), 1, true, some(1)}, step{load(6), 2, true, some(1)},
		step{cas(0, 1, 1<<32+2), 0, true, some(1)}, step{load(2), 1 << 32, true, some(1, 2)}, step{store(3, 0), 0, true, some(1, 2)}, step{cas(2, 1<<32, 2<<32+1), 0, true, some(1, 2)})
}
