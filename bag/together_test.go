package bag_test

import (
	"slices"
	"testing"

	"coachyard/api"
	"coachyard/bag"
	"coachyard/diary"
	"coachyard/loom"
	"coachyard/pool"
)

// crowd is workers of a bag that is right: each begins a call, does it at one moment, and ends it.
type crowd struct {
	draw  func(int) int
	spans []api.Span
	tasks []uint64 // what is in the bag
	place int
	open  [api.MaxWorkers]int // 1 and the place of what each has begun
	done  [api.MaxWorkers]bool
}

func (c *crowd) step(who int, begins bool) {
	switch {
	case c.open[who] > 0 && !c.done[who]:
		c.do(&c.spans[c.open[who]-1])
		c.done[who] = true
	case c.open[who] > 0:
		c.spans[c.open[who]-1].To = c.place
		c.open[who], c.done[who] = 0, false
		c.place++
	case begins:
		c.spans = append(c.spans, c.begun())
		c.open[who] = len(c.spans)
		c.place++
	}
}

// begun is an adding, or else somebody who asks: so seldom is there more than a few tasks that many are refused.
func (c *crowd) begun() api.Span {
	if c.draw(5) < 2 {
		return add(uint64(c.draw(1000)), c.place, -1)
	}
	return wait(c.place)
}

func (c *crowd) do(s *api.Span) {
	switch {
	case s.Call.Kind == api.Submit:
		c.tasks = append(c.tasks, s.Call.Task)
	case len(c.tasks) == 0:
		s.Result.Code = api.Empty
	default:
		i := c.draw(len(c.tasks))
		s.Result.V = c.tasks[i]
		c.tasks = slices.Delete(c.tasks, i, i+1)
	}
}

// crowdOf is one that did n steps.
func crowdOf(seed uint64, n int) *crowd {
	c := &crowd{draw: drawn(seed)}
	for range n {
		c.step(c.draw(api.MaxWorkers), true)
	}
	return c
}

// rest lets all workers end what they have begun.
func (c *crowd) rest() {
	for who := range api.MaxWorkers {
		for c.open[who] > 0 {
			c.step(who, false)
		}
	}
}

// isDone looks that the bag does l in that order: all takings find their tasks, and what is left is left.
func isDone(t *testing.T, l []api.Span, order []int, left []uint64) {
	t.Helper()
	there := map[uint64]int{}
	for _, place := range order {
		if s := l[place]; isAdding(s) {
			there[s.Call.Task]++
		} else if there[s.Result.V]--; there[s.Result.V] < 0 {
			t.Fatalf("at %d there is no %d", place, s.Result.V)
		}
	}
	for _, task := range left {
		there[task]--
	}
	for task, n := range there {
		if n != 0 {
			t.Fatalf("%d of %d are left besides", n, task)
		}
	}
}

// isFull looks that all calls take l as a right bag's.
func isFull(t *testing.T, l []api.Span) []uint64 {
	t.Helper()
	if !bag.Can(l) {
		t.Fatalf("it can't be: %+v", l)
	}
	if at, ok := bag.Sense(l); at != -1 || !ok {
		t.Fatalf("Sense is %d, %v of %+v", at, ok, l)
	}
	order, e := bag.Order(l)
	left, f := bag.Left(l)
	if e != api.Fine || f != api.Fine || !slices.IsSorted(left) {
		t.Fatalf("Order tells %d, Left %d, %d", e, left, f)
	}
	isDone(t, l, order, left)
	return left
}

// P16.1, P16.2 and P16.3 of what a right bag answers, on the way and at rest.
func TestRightBag(t *testing.T) {
	for seed := range uint64(300) {
		c := crowdOf(seed, int(seed))
		isFull(t, c.spans)
		isByWords(t, c.spans)
		c.rest()
		left := isFull(t, c.spans)
		slices.Sort(c.tasks)
		if !slices.Equal(left, c.tasks) {
			t.Fatalf("%d are left instead of %d of %+v", left, c.tasks, c.spans)
		}
	}
}

// Of 200000 calls, too, and single spoiled ones of them.
func TestLongBag(t *testing.T) {
	c := crowdOf(1, 600000)
	c.rest()
	if left := isFull(t, c.spans); len(left) != len(c.tasks) || len(c.spans) < 150000 {
		t.Errorf("%d of %d are left of %d calls", left, c.tasks, len(c.spans))
	}
	for range 20 {
		place := c.draw(len(c.spans))
		s := &c.spans[place]
		was := *s
		if isTaking(was) {
			s.Result.V = 1000
			if bag.Can(c.spans) {
				t.Errorf("it can be with %+v at %d", *s, place)
			}
		}
		if isAdding(was) {
			s.Call.Task = 1000
			left, e := bag.Left(c.spans)
			if e == api.Fine && !slices.Contains(left, 1000) || e != api.Fine && e != api.Form {
				t.Errorf("with %+v at %d there are left %d, %d", *s, place, left, e)
			}
		}
		*s = was
	}
	many := len(c.spans)
	l := append(c.spans, add(2000, -2, 0), refuse(c.place, c.place))
	if at, ok := bag.Sense(l); at < 0 || at > many+1 || ok {
		t.Errorf("Sense is %d, %v", at, ok)
	}
	if left, e := bag.Left(l); e != api.Fine || !slices.Contains(left, 2000) {
		t.Errorf("Left tells %d, %d", left, e)
	}
}

// noted is a pool whose workers are picked, and a diary of it.
type noted struct {
	*testing.T
	*pool.Pool
	*loom.Loom
	events []api.Event
	calls  [api.MaxWorkers]api.Call
	nth    [api.MaxWorkers]int
	open   [api.MaxWorkers]bool
}

func notedOf(t *testing.T, c api.Config) *noted {
	t.Helper()
	p, e := pool.New(c)
	m, f := p.Plan().Init()
	l, g := loom.New(m, c.Workers)
	if e != api.Fine || f != api.Fine || g != api.Fine {
		t.Fatal(e, f, g)
	}
	return &noted{T: t, Pool: p, Loom: l}
}

func (n *noted) begin(who int, c api.Call) {
	if e := n.Start(who, n.Call(who, c)); e != api.Fine {
		n.Fatal(e)
	}
	n.calls[who], n.open[who] = c, true
	n.events = append(n.events, api.Event{Step: n.Steps(), Who: who, Nth: n.nth[who], Call: c})
}

// pick tells whether the worker's call has ended by it.
func (n *noted) pick(who int) bool {
	n.Pick(who)
	r, ended := n.Result(who)
	if !ended || !n.open[who] {
		return false
	}
	n.events = append(n.events, api.Event{Step: n.Steps(), Who: who, Nth: n.nth[who], Ends: true, Call: n.calls[who], Result: r})
	n.open[who] = false
	n.nth[who]++
	return true
}

func (n *noted) spans() []api.Span {
	l, e := diary.Spans(n.events)
	if e != api.Fine {
		n.Fatal(e)
	}
	return l
}

// drawnCall is a Submit, or a Next.
func drawnCall(draw func(int) int) api.Call {
	return api.Call{Kind: api.Submit + draw(2), Task: uint64(draw(4))}
}

// isRightSoFar looks that the calls can be a bag's, and are full of sense, if they are of deques.
func isRightSoFar(t *testing.T, c api.Config, l []api.Span) {
	t.Helper()
	if at, ok := bag.Sense(l); c.Kind == api.Deque && (at != -1 || !ok) {
		t.Fatalf("%+v: Sense is %d of %+v", c, at, l)
	}
	order, e := bag.Order(l)
	left, f := bag.Left(l)
	if !bag.Can(l) || e != api.Fine || f != api.Fine {
		t.Fatalf("%+v: it can't be: %+v", c, l)
	}
	isDone(t, l, order, left)
}

// P16.1, P16.2 and P16.3 of what pools answer, as often as one of their calls has ended.
func TestPools(t *testing.T) {
	for seed := range uint64(24) {
		draw := drawn(100 + seed)
		c := api.Config{Workers: 2 + draw(3), Kind: int(seed % 2), Size: 2 << draw(2), Nodes: 3 + draw(3)}
		n := notedOf(t, c)
		for range 1500 {
			who := draw(c.Workers)
			if !n.open[who] {
				n.begin(who, drawnCall(draw))
			}
			if n.pick(who) {
				isRightSoFar(t, c, n.spans())
			}
		}
	}
}

// At rest what is left is what is in the pool.
func TestPoolAtRest(t *testing.T) {
	for seed := range uint64(24) {
		draw := drawn(200 + seed)
		n := notedOf(t, api.Config{Workers: 2 + draw(3), Kind: int(seed % 2), Size: 4, Nodes: 8})
		for range 60 {
			for who := range n.Workers() {
				n.begin(who, drawnCall(draw))
			}
			for slices.Contains(n.open[:], true) {
				n.pick(draw(n.Workers()))
			}
			tasks, e := n.All(n.Mem())
			slices.Sort(tasks)
			if left, f := bag.Left(n.spans()); e != api.Fine || f != api.Fine || !slices.Equal(left, tasks) {
				t.Fatalf("%d are left (%d), and %d are there (%d) behind %+v", left, f, tasks, e, n.spans())
			}
		}
	}
}
