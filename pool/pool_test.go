package pool_test

import (
	"math"
	"slices"
	"testing"

	"coachyard/api"
	"coachyard/cells"
	"coachyard/idle"
	"coachyard/local"
	"coachyard/park"
	"coachyard/plan"
	"coachyard/pool"
	"coachyard/queue"
	"coachyard/walk"
)

// none are numbers of workers that no pool has.
func none() []int {
	return []int{math.MinInt, math.MinInt + 1, -1 << 32, -1<<32 + 1, -65536, -17, -16, -3, -2, -1, 16, 17, 18, 31, 32, 64, 256, 4096, 65535, 65536,
		1<<31 - 1, 1 << 31, 1<<32 - 1, 1 << 32, 1<<32 + 1, 1 << 62, math.MaxInt - 1, math.MaxInt}
}

// strange are kinds of calls that there aren't.
func strange() []int {
	return []int{math.MinInt, math.MinInt + 1, -1 << 32, -1<<32 + 1, -1<<32 + 2, -1<<32 + 3, -257, -256, -255, -4, -3, -2, -1, 0, 4, 5, 6, 7, 255, 256, 257, 258, 259, 260, 65537,
		1 << 31, 1<<32 - 1, 1 << 32, 1<<32 + 1, 1<<32 + 2, 1<<32 + 3, math.MaxInt - 1, math.MaxInt}
}

// rights are configs that are right, at the ends of what can be, and within.
func rights() []api.Config {
	var l []api.Config
	for kind := range 2 {
		for _, workers := range []int{1, 2, 3, 5, 15, 16} {
			for _, size := range []int{2, 4, 64, 256} {
				for _, nodes := range []int{2, 3, 100, 4096} {
					l = append(l, api.Config{Workers: workers, Kind: kind, Size: size, Nodes: nodes})
				}
			}
		}
	}
	return l
}

// few are some of them, of either kind.
func few() []api.Config {
	return []api.Config{{Workers: 1, Kind: 0, Size: 2, Nodes: 2}, {Workers: 1, Kind: 1, Size: 2, Nodes: 2}, {Workers: 2, Kind: 0, Size: 2, Nodes: 3}, {Workers: 2, Kind: 1, Size: 4, Nodes: 3},
		{Workers: 3, Kind: 0, Size: 4, Nodes: 5}, {Workers: 3, Kind: 1, Size: 8, Nodes: 12}, {Workers: 16, Kind: 0, Size: 16, Nodes: 20}, {Workers: 16, Kind: 1, Size: 2, Nodes: 9}}
}

// wrongs are configs that aren't right.
func wrongs() []api.Config {
	l := []api.Config{{}, {Workers: 1}, {Workers: 1, Size: 2}, {Workers: 1, Nodes: 2}, {Size: 2, Nodes: 2}}
	for _, c := range few() {
		for _, n := range append(none(), 0)[1:] {
			if n < 1 || n > 16 {
				l = append(l, api.Config{Workers: n, Kind: c.Kind, Size: c.Size, Nodes: c.Nodes})
			}
			if n < 0 || n > 1 {
				l = append(l, api.Config{Workers: c.Workers, Kind: n, Size: c.Size, Nodes: c.Nodes})
			}
			if n < 2 || n > 4096 {
				l = append(l, api.Config{Workers: c.Workers, Kind: c.Kind, Size: c.Size, Nodes: n})
			}
		}
		for _, size := range []int{math.MinInt, -4, -2, -1, 0, 1, 3, 5, 6, 12, 255, 257, 512, 1 << 32, 1 << 62, math.MaxInt} {
			l = append(l, api.Config{Workers: c.Workers, Kind: c.Kind, Size: size, Nodes: c.Nodes})
		}
	}
	return l
}

// parts are a pool's parts, where the chapters' words lay them (12): one behind the other.
type parts struct {
	yard  idle.Yard
	spots []park.Spot
	line  queue.Line
	rows  []local.Row
	cells int
}

func partsOf(c api.Config) parts {
	p := parts{yard: idle.Yard{At: 0, Workers: c.Workers}, line: queue.Line{At: 1 + c.Workers, N: c.Nodes}}
	p.cells = 1 + c.Workers + 3 + 3*c.Nodes
	for i := range c.Workers {
		p.spots = append(p.spots, park.Spot{At: 1 + i})
		p.rows = append(p.rows, local.Row{Kind: c.Kind, At: p.cells, Size: c.Size})
		p.cells += 2 + c.Size
	}
	return p
}

func poolOf(t *testing.T, c api.Config) *pool.Pool {
	t.Helper()
	p, e := pool.New(c)
	if e != api.Fine || p == nil {
		t.Fatalf("%+v: told %d", c, e)
	}
	return p
}

func memoryOf(t *testing.T, p *pool.Pool) *cells.Mem {
	t.Helper()
	m, e := p.Plan().Init()
	if e != api.Fine {
		t.Fatalf("%+v: told %d", p.Plan().Config(), e)
	}
	return m
}

// memory is one of just these cells.
func memory(t *testing.T, l ...uint64) *cells.Mem {
	t.Helper()
	m, e := cells.New(len(l))
	if e != api.Fine || m.Fill(l) != api.Fine {
		t.Fatal(e)
	}
	return m
}

// some is a list, short to write.
func some(l ...uint64) []uint64 {
	return l
}

const round = 1 << 32 // where a pair's halves go round

func pair(hi, lo uint64) uint64 {
	return hi*round + lo
}

// drawn tells numbers that look like drawn ones, the same ones each time.
func drawn(seed uint64) func(n int) int {
	return func(n int) int {
		seed = seed*6364136223846793005 + 1442695040888963407
		return int(seed >> 33 % uint64(n))
	}
}

// alone does a walk in m, step by step, till it ends.
func alone(t *testing.T, m *cells.Mem, w *walk.Walk) api.Result {
	t.Helper()
	for range 4000 {
		a, ok := w.Want()
		if !ok {
			break
		}
		v, won, e := m.Do(a)
		if e != api.Fine {
			t.Fatalf("%+v: told %d", a, e)
		}
		w.Give(v, won)
	}
	r, ok := w.Result()
	if !ok {
		t.Fatal("a walk goes on and on")
	}
	return r
}

func isAll(t *testing.T, p *pool.Pool, m *cells.Mem, want ...uint64) {
	t.Helper()
	was := m.All()
	if l, e := p.All(m); e != api.Fine || !slices.Equal(l, want) {
		t.Fatalf("%+v: in it are %d, %d, not %d", p.Plan().Config(), l, e, want)
	}
	if !slices.Equal(m.All(), was) {
		t.Fatal("cells were changed by a look at them")
	}
}

func refusesAll(t *testing.T, p *pool.Pool, m *cells.Mem, want api.Code) {
	t.Helper()
	if l, e := p.All(m); e != want || len(l) != 0 {
		t.Fatalf("%+v: told %d, %d, not %d", p.Plan().Config(), l, e, want)
	}
}

// hasNot holds a pool to having no worker of that number.
func hasNot(t *testing.T, p *pool.Pool, i int, want api.Code) {
	t.Helper()
	if r := p.Row(i); r != (local.Row{}) {
		t.Fatalf("the row of %d is %+v", i, r)
	}
	for _, w := range []*walk.Walk{p.Submit(i, 5), p.Next(i, nil), p.Next(i, []int{0, 1}), p.Park(i),
		p.Call(i, api.Call{Kind: 1, Task: 5}), p.Call(i, api.Call{Kind: 2}), p.Call(i, api.Call{Kind: 3})} {
		goes(t, w, api.Result{Code: want})
	}
}

// P14.1

func TestNew(t *testing.T) {
	for _, c := range rights() {
		p := poolOf(t, c)
		pl, _ := plan.New(c)
		if p.Plan() != pl || p.Plan().Config() != c {
			t.Fatalf("%+v: the plan is %+v", c, p.Plan())
		}
		want := partsOf(c)
		if p.Plan().Cells() != want.cells {
			t.Fatalf("%+v: %d cells", c, p.Plan().Cells())
		}
		for i, r := range want.rows {
			if p.Row(i) != r || !r.Right() {
				t.Fatalf("%+v: the row of %d is %+v, not %+v", c, i, p.Row(i), r)
			}
		}
	}
}

func TestNewRefuses(t *testing.T) {
	for _, c := range wrongs() {
		if p, e := pool.New(c); p != nil || e != api.Arg {
			t.Fatalf("%+v: a pool: %t, %d", c, p != nil, e)
		}
	}
}

func TestWorkersThatArent(t *testing.T) {
	for _, c := range few() {
		p := poolOf(t, c)
		for _, i := range none() {
			hasNot(t, p, i, api.Arg)
		}
		for i := c.Workers; i < 40; i++ {
			hasNot(t, p, i, api.Arg)
		}
	}
}

func TestCallsOfAnotherKind(t *testing.T) {
	for _, c := range few() {
		p := poolOf(t, c)
		for _, kind := range strange() {
			for _, i := range append(none(), 0, c.Workers-1, c.Workers) {
				goes(t, p.Call(i, api.Call{Kind: kind}), api.Result{Code: api.Arg})
				goes(t, p.Call(i, api.Call{Kind: kind, Task: 5, Victims: []int{0, 1}}), api.Result{Code: api.Arg})
			}
		}
	}
}

// Nil is told whatever else is wrong.
func TestNilPool(t *testing.T) {
	var p *pool.Pool
	if p.Plan() != (plan.Plan{}) {
		t.Error("a nil pool has a plan")
	}
	for _, i := range append(none(), 0, 1, 15) {
		hasNot(t, p, i, api.Nil)
		for _, kind := range strange() {
			goes(t, p.Call(i, api.Call{Kind: kind}), api.Result{Code: api.Nil})
		}
	}
	refusesAll(t, p, nil, api.Nil)
	refusesAll(t, p, memory(t, make([]uint64, 100)...), api.Nil)
	refusesAll(t, p, memoryOf(t, poolOf(t, few()[2])), api.Nil)
}

// One that New didn't make has no workers.
func TestZeroPool(t *testing.T) {
	p := new(pool.Pool)
	if p.Plan() != (plan.Plan{}) {
		t.Error("a zero pool has a plan")
	}
	for _, i := range append(none(), 0, 1, 15) {
		hasNot(t, p, i, api.Arg)
		goes(t, p.Call(i, api.Call{Kind: 4}), api.Result{Code: api.Arg})
	}
	refusesAll(t, p, nil, api.Nil)
	refusesAll(t, p, memory(t, make([]uint64, 100)...), api.Arg)
}

// P14.2

// filled are the cells of a pool in which some tasks are, and these tasks: so many in the queue, and in each row.
func filled(t *testing.T, p *pool.Pool, queued int, in []int) (*cells.Mem, []uint64) {
	t.Helper()
	m, want := memoryOf(t, p), partsOf(p.Plan().Config())
	var tasks []uint64
	lay := func(w func(v uint64) *walk.Walk) {
		v := uint64(1000 + len(tasks))
		tasks = append(tasks, v)
		if r := alone(t, m, w(v)); r.Code != api.Fine {
			t.Fatal(r)
		}
	}
	for range queued {
		lay(func(v uint64) *walk.Walk { return want.line.Put(some(v)) })
	}
	for i, n := range in {
		for range n {
			lay(want.rows[i].Push)
		}
	}
	return m, tasks
}

// anyFilled is a pool's memory with drawn numbers of tasks in all parts.
func anyFilled(t *testing.T, p *pool.Pool, draw func(n int) int) (*cells.Mem, []uint64) {
	t.Helper()
	c := p.Plan().Config()
	in := make([]int, c.Workers)
	for i := range in {
		in[i] = draw(c.Size + 1)
	}
	return filled(t, p, draw(c.Nodes), in)
}

func TestAll(t *testing.T) {
	for seed, c := range few() {
		p, draw := poolOf(t, c), drawn(uint64(seed))
		isAll(t, p, memoryOf(t, p))
		for range 30 {
			m, tasks := anyFilled(t, p, draw)
			isAll(t, p, m, tasks...)
		}
		all := slices.Repeat([]int{c.Size}, c.Workers)
		m, tasks := filled(t, p, c.Nodes-1, all)
		isAll(t, p, m, tasks...)
		m, tasks = filled(t, p, 1, nil)
		isAll(t, p, m, tasks...)
		for i := range c.Workers {
			one := make([]int, i+1)
			one[i] = 1
			m, tasks = filled(t, p, 0, one)
			isAll(t, p, m, tasks...)
		}
	}
}

// Who is idle, and who means to wait, plays no part; nor do more cells.
func TestAllOfMoreCells(t *testing.T) {
	for seed, c := range few() {
		p := poolOf(t, c)
		m, tasks := anyFilled(t, p, drawn(uint64(seed)))
		l := append(m.All(), 7, math.MaxUint64)
		for cell := range 1 + c.Workers {
			l[cell] = math.MaxUint64 - uint64(cell)
		}
		isAll(t, p, memory(t, l...), tasks...)
	}
}

// With one cell less the last row's place isn't there; with fewer also that of others.
func TestAllOfLessCells(t *testing.T) {
	for seed, c := range few() {
		p := poolOf(t, c)
		m, _ := anyFilled(t, p, drawn(uint64(seed)))
		for n := 1; n < m.Len(); n++ {
			refusesAll(t, p, memory(t, m.All()[:n]...), api.Place)
		}
		refusesAll(t, p, new(cells.Mem), api.Place)
		refusesAll(t, p, nil, api.Nil)
	}
}

// The first error of all: of the queue, and then of each row.
func TestAllBroken(t *testing.T) {
	for seed, c := range few() {
		p, want := poolOf(t, c), partsOf(c)
		m, tasks := anyFilled(t, p, drawn(uint64(seed)))
		l := m.All()
		isAll(t, p, m, tasks...)
		breaks := func(cell, cut int, code api.Code) {
			t.Helper()
			b := slices.Clone(l)
			b[cell] = l[cell] + uint64(c.Size) + 5000
			refusesAll(t, p, memory(t, b[:len(b)-cut]...), code)
		}
		breaks(want.line.At, 0, api.Broken)
		breaks(want.line.At, 1, api.Broken)
		breaks(want.line.At, c.Workers*(c.Size+2), api.Broken)
		breaks(want.line.At, c.Workers*(c.Size+2)+1, api.Place)
		for i, r := range want.rows {
			behind := (c.Workers - 1 - i) * (c.Size + 2)
			breaks(r.At+1, 0, api.Broken)
			breaks(r.At+1, behind, api.Broken)
			if c.Size > 2 {
				breaks(r.At+1, behind+1, api.Place)
			}
		}
	}
}

// R4, R6: what is told is the caller's, and nothing is kept.
func TestAllIsKeptNowhere(t *testing.T) {
	p := poolOf(t, api.Config{Workers: 2, Kind: 1, Size: 4, Nodes: 4})
	m, tasks := filled(t, p, 2, []int{1, 3})
	l, _ := p.All(m)
	for i := range l {
		l[i] = 7
	}
	_ = append(l, 8)
	isAll(t, p, m, tasks...)
	other, more := filled(t, p, 1, []int{4, 4})
	isAll(t, p, other, more...)
	isAll(t, p, m, tasks...)
}

// R6: pools go each by its own plan.
func TestPoolsSideBySide(t *testing.T) {
	var all []*pool.Pool
	for _, c := range few() {
		all = append(all, poolOf(t, c))
	}
	for i, c := range few() {
		last := c.Workers - 1
		if all[i].Plan().Config() != c || all[i].Row(last) != partsOf(c).rows[last] {
			t.Errorf("%+v: %+v, %+v", c, all[i].Plan(), all[i].Row(last))
		}
	}
}
