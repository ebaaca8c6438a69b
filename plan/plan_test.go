package plan_test

import (
	"math"
	"slices"
	"testing"

	"coachyard/api"
	"coachyard/cells"
	"coachyard/deque"
	"coachyard/idle"
	"coachyard/park"
	"coachyard/plan"
	"coachyard/queue"
	"coachyard/ring"
	"coachyard/walk"
)

// none are numbers of workers that no plan has.
func none() []int {
	return []int{math.MinInt, math.MinInt + 1, -1 << 32, -65536, -17, -16, -3, -2, -1, 16, 17, 18, 31, 32, 64, 256, 4096, 65535, 65536,
		1<<31 - 1, 1 << 31, 1<<32 - 1, 1 << 32, 1<<32 + 1, 1 << 62, math.MaxInt - 1, math.MaxInt}
}

func kinds() []int { return []int{0, 1} }

func sizes() []int { return []int{2, 4, 8, 16, 32, 64, 128, 256} }

// nodes are numbers of nodes that can be, at the ends, and within.
func nodes() []int { return []int{2, 3, 4, 5, 6, 7, 8, 9, 100, 255, 256, 257, 1000, 4094, 4095, 4096} }

// rights are configs that are right: all there are, but for their nodes.
func rights() []api.Config {
	var l []api.Config
	for n := 1; n <= 16; n++ {
		for _, kind := range kinds() {
			for _, size := range sizes() {
				for _, k := range nodes() {
					l = append(l, api.Config{Workers: n, Kind: kind, Size: size, Nodes: k})
				}
			}
		}
	}
	return l
}

// few are configs that are right, at the ends of what can be, and within.
func few() []api.Config {
	var l []api.Config
	for _, n := range []int{1, 2, 3, 15, 16} {
		for _, kind := range kinds() {
			for _, size := range []int{2, 4, 128, 256} {
				for _, k := range []int{2, 3, 5, 4095, 4096} {
					l = append(l, api.Config{Workers: n, Kind: kind, Size: size, Nodes: k})
				}
			}
		}
	}
	return l
}

// far are numbers that no field of a config can be.
func far() []int {
	return []int{math.MinInt, math.MinInt + 1, -1 << 62, -1 << 32, -1<<32 + 1, -1<<32 + 2, -65536, -4096, -256, -16, -8, -4, -3, -2, -1, 4097, 4098, 8192, 65535, 65536,
		1<<31 - 1, 1 << 31, 1<<32 - 1, 1 << 32, 1<<32 + 1, 1<<32 + 2, 1<<32 + 3, 1<<32 + 4, 1 << 62, math.MaxInt - 1, math.MaxInt}
}

// wrongWorkers are numbers of workers that can't be, and likewise with the others.
func wrongWorkers() []int {
	return append(far(), 0, 17, 18, 20, 31, 32, 33, 48, 256, 257, 4096)
}

func wrongKinds() []int {
	return append(far(), 2, 3, 4, 5, 16, 256, 257, 4096)
}

func wrongSizes() []int {
	l := append(far(), 0, 1)
	for size := 2; size <= 1025; size++ {
		if !slices.Contains(sizes(), size) {
			l = append(l, size)
		}
	}
	return append(l, 2048, 4096)
}

func wrongNodes() []int {
	return append(far(), 0, 1)
}

// places are where all parts stand, by the chapter: one behind the other.
type places struct {
	cells  int // how many there are
	spots  []int
	line   int
	locals []int
}

// lay tells the cell where something of n cells stands, behind all that stands there already.
func (p *places) lay(n int) int {
	at := p.cells
	p.cells += n
	return at
}

func placesOf(c api.Config) places {
	var p places
	p.lay(1)
	for range c.Workers {
		p.spots = append(p.spots, p.lay(1))
	}
	p.line = p.lay(2 + 1 + c.Nodes + c.Nodes + c.Nodes) // head and tail; the arena's head; links, tasks and nexts
	for range c.Workers {
		p.locals = append(p.locals, p.lay(2+c.Size))
	}
	return p
}

func planOf(t *testing.T, c api.Config) plan.Plan {
	t.Helper()
	p, e := plan.New(c)
	if e != api.Fine {
		t.Fatalf("%+v: told %d", c, e)
	}
	return p
}

func begun(t *testing.T, p plan.Plan) *cells.Mem {
	t.Helper()
	m, e := p.Init()
	if e != api.Fine {
		t.Fatalf("%+v: told %d", p.Config(), e)
	}
	return m
}

// isPlan holds a plan against where all parts stand.
func isPlan(t *testing.T, p plan.Plan, c api.Config, want places) {
	t.Helper()
	if p.Config() != c {
		t.Fatalf("the config is %+v, not %+v", p.Config(), c)
	}
	if p.Cells() != want.cells {
		t.Fatalf("%+v: %d cells, not %d", c, p.Cells(), want.cells)
	}
	if y := (idle.Yard{At: 0, Workers: c.Workers}); p.Yard() != y {
		t.Fatalf("%+v: the yard is %+v, not %+v", c, p.Yard(), y)
	}
	if q := (queue.Line{At: want.line, N: c.Nodes}); p.Line() != q {
		t.Fatalf("%+v: the queue is %+v, not %+v", c, p.Line(), q)
	}
	for i := range c.Workers {
		if p.Spot(i) != (park.Spot{At: want.spots[i]}) || p.Local(i) != want.locals[i] {
			t.Fatalf("%+v: the parker of %d is %+v, its row at %d, not %d and %d", c, i, p.Spot(i), p.Local(i), want.spots[i], want.locals[i])
		}
	}
	for _, i := range none() {
		hasNot(t, p, i)
	}
	for i := c.Workers; i < 16; i++ {
		hasNot(t, p, i)
	}
}

// hasNot holds a plan to having no worker of that number.
func hasNot(t *testing.T, p plan.Plan, i int) {
	t.Helper()
	if p.Spot(i) != (park.Spot{At: -1}) || p.Local(i) != -1 {
		t.Fatalf("%+v: the parker of %d is %+v, its row at %d", p.Config(), i, p.Spot(i), p.Local(i))
	}
}

// isZero holds a plan to being the zero one.
func isZero(t *testing.T, p plan.Plan) {
	t.Helper()
	if p.Config() != (api.Config{}) || p.Cells() != 0 || p.Yard() != (idle.Yard{}) || p.Line() != (queue.Line{}) {
		t.Fatalf("it tells %+v, %d, %+v, %+v", p.Config(), p.Cells(), p.Yard(), p.Line())
	}
	for _, i := range append(none(), 0, 1, 2, 15) {
		hasNot(t, p, i)
	}
	if m, e := p.Init(); m != nil || e != api.Arg {
		t.Fatalf("a memory: %t, %d", m != nil, e)
	}
}

func refuses(t *testing.T, c api.Config) {
	t.Helper()
	p, e := plan.New(c)
	if e != api.Arg {
		t.Fatalf("%+v: told %d", c, e)
	}
	isZero(t, p)
}

// P12.1

func TestNew(t *testing.T) {
	for _, c := range []struct {
		config api.Config
		want   places
	}{
		{api.Config{Workers: 2, Kind: 0, Size: 4, Nodes: 3}, places{27, []int{1, 2}, 3, []int{15, 21}}},
		{api.Config{Workers: 2, Kind: 1, Size: 4, Nodes: 3}, places{27, []int{1, 2}, 3, []int{15, 21}}},
		{api.Config{Workers: 1, Kind: 0, Size: 2, Nodes: 2}, places{15, []int{1}, 2, []int{11}}},
		{api.Config{Workers: 1, Kind: 1, Size: 2, Nodes: 2}, places{15, []int{1}, 2, []int{11}}},
		{api.Config{Workers: 3, Kind: 0, Size: 8, Nodes: 10}, places{67, []int{1, 2, 3}, 4, []int{37, 47, 57}}},
		{api.Config{Workers: 1, Kind: 1, Size: 256, Nodes: 4096}, places{12551, []int{1}, 2, []int{12293}}},
		{api.Config{Workers: 16, Kind: 0, Size: 256, Nodes: 4096}, places{16436, []int{1, 2, 3, 4, 5, 6, 7, 8, 9, 10, 11, 12, 13, 14, 15, 16}, 17,
			[]int{12308, 12566, 12824, 13082, 13340, 13598, 13856, 14114, 14372, 14630, 14888, 15146, 15404, 15662, 15920, 16178}}},
		{api.Config{Workers: 16, Kind: 1, Size: 2, Nodes: 2}, places{90, []int{1, 2, 3, 4, 5, 6, 7, 8, 9, 10, 11, 12, 13, 14, 15, 16}, 17,
			[]int{26, 30, 34, 38, 42, 46, 50, 54, 58, 62, 66, 70, 74, 78, 82, 86}}},
	} {
		isPlan(t, planOf(t, c.config), c.config, c.want)
	}
}

func TestNewOfAll(t *testing.T) {
	for _, c := range rights() {
		isPlan(t, planOf(t, c), c, placesOf(c))
	}
}

// All numbers of nodes that can be are right, and those beside them aren't.
func TestNewOfAllNodes(t *testing.T) {
	for k := 2; k <= 4096; k++ {
		for _, c := range []api.Config{{Workers: 1, Kind: 0, Size: 2, Nodes: k}, {Workers: 5, Kind: 1, Size: 16, Nodes: k}, {Workers: 16, Kind: 1, Size: 256, Nodes: k}} {
			isPlan(t, planOf(t, c), c, placesOf(c))
		}
	}
}

// Each part stands wholly in the memory, shares no cell with another one, and no cell is left over.
func TestPartsStandApart(t *testing.T) {
	for _, c := range few() {
		p := planOf(t, c)
		owners := make([]int, p.Cells())
		own := func(at, n int) {
			for cell := at; cell < at+n; cell++ {
				owners[cell]++
			}
		}
		own(p.Yard().At, 1)
		own(p.Line().At, p.Line().Cells())
		for i := range c.Workers {
			own(p.Spot(i).At, 1)
			own(p.Local(i), c.Size+2)
		}
		for cell, n := range owners {
			if n != 1 {
				t.Fatalf("%+v: the cell %d is one of %d parts", c, cell, n)
			}
		}
	}
}

// (All its cells are always less than MaxCells.) Each part is right by its own chapter.
func TestPartsAreRight(t *testing.T) {
	for _, c := range rights() {
		p := planOf(t, c)
		if p.Cells() < 1 || p.Cells() >= api.MaxCells {
			t.Fatalf("%+v: %d cells", c, p.Cells())
		}
		if !p.Yard().Right() || !p.Line().Right() {
			t.Fatalf("%+v: the yard %+v, or the queue %+v, isn't right", c, p.Yard(), p.Line())
		}
		for i := range c.Workers {
			if !(deque.Row{At: p.Local(i), Size: c.Size}).Right() || !(ring.Row{At: p.Local(i), Size: c.Size}).Right() {
				t.Fatalf("%+v: the row of %d at %d isn't right", c, i, p.Local(i))
			}
		}
	}
}

// One field that can't be is enough, whatever the others are.
func TestNewRefuses(t *testing.T) {
	for _, c := range append(few(), api.Config{Workers: 2, Kind: 1, Size: 4, Nodes: 3}, api.Config{Workers: 8, Kind: 0, Size: 64, Nodes: 500}) {
		for _, n := range wrongWorkers() {
			refuses(t, api.Config{Workers: n, Kind: c.Kind, Size: c.Size, Nodes: c.Nodes})
		}
		for _, kind := range wrongKinds() {
			refuses(t, api.Config{Workers: c.Workers, Kind: kind, Size: c.Size, Nodes: c.Nodes})
		}
		for _, k := range wrongNodes() {
			refuses(t, api.Config{Workers: c.Workers, Kind: c.Kind, Size: c.Size, Nodes: k})
		}
	}
}

func TestNewRefusesSizes(t *testing.T) {
	for _, size := range wrongSizes() {
		for _, kind := range kinds() {
			refuses(t, api.Config{Workers: 1, Kind: kind, Size: size, Nodes: 2})
			refuses(t, api.Config{Workers: 2, Kind: kind, Size: size, Nodes: 3})
			refuses(t, api.Config{Workers: 16, Kind: kind, Size: size, Nodes: 4096})
		}
	}
}

// Several fields that can't be are as wrong as one.
func TestNewRefusesAll(t *testing.T) {
	ends := []int{math.MinInt, -1, 0, 1, 2, 3, 16, 17, 256, 257, 512, 4096, 4097, 1 << 32, math.MaxInt}
	refused := 0
	for _, n := range ends {
		for _, kind := range ends {
			for _, size := range ends {
				for _, k := range ends {
					if slices.Contains([]int{1, 2, 3, 16}, n) && slices.Contains(kinds(), kind) && slices.Contains([]int{2, 16, 256}, size) && slices.Contains([]int{2, 3, 16, 17, 256, 257, 512, 4096}, k) {
						continue
					}
					refuses(t, api.Config{Workers: n, Kind: kind, Size: size, Nodes: k})
					refused++
				}
			}
		}
	}
	if want := 15*15*15*15 - 4*2*3*8; refused != want {
		t.Fatalf("%d were refused, not %d", refused, want)
	}
}

// The zero Plan has no parts, and is what is told of a config that isn't right.
func TestZeroPlan(t *testing.T) {
	isZero(t, plan.Plan{})
	refuses(t, api.Config{})
	refuses(t, api.Config{Workers: 1})
	refuses(t, api.Config{Workers: 1, Size: 2})
	refuses(t, api.Config{Workers: 1, Nodes: 2})
	refuses(t, api.Config{Size: 2, Nodes: 2})
}

// A plan stays as it is, whatever is made beside it, and whatever comes of its copies.
func TestPlanStays(t *testing.T) {
	c := api.Config{Workers: 2, Kind: 1, Size: 4, Nodes: 3}
	p := planOf(t, c)
	other := api.Config{Workers: 3, Kind: 0, Size: 8, Nodes: 10}
	q, same := planOf(t, other), p
	refuses(t, api.Config{Workers: 2, Kind: 2, Size: 4, Nodes: 3})
	config := p.Config()
	config.Workers, config.Size = 16, 256
	same, _ = plan.New(config)
	begun(t, same)
	isPlan(t, p, c, placesOf(c))
	isPlan(t, q, other, placesOf(other))
	isPlan(t, same, config, placesOf(config))
}

// P12.2

// beginning are the cells that a config's memory has at first: of all of them the queue's alone aren't 0.
func beginning(c api.Config) []uint64 {
	want := placesOf(c)
	l := make([]uint64, want.cells)
	l[want.line], l[want.line+1] = 1, 1 // the node 1 is at the head, and at the tail
	l[want.line+2] = 2
	for i := 2; i < c.Nodes; i++ {
		l[want.line+2+i] = uint64(i + 1)
	}
	return l
}

func TestInit(t *testing.T) {
	m := begun(t, planOf(t, api.Config{Workers: 2, Kind: 0, Size: 4, Nodes: 3}))
	want := []uint64{
		0, 0, 0,
		1, 1, 2, 0, 3, 0, 0, 0, 0, 0, 0, 0,
		0, 0, 0, 0, 0, 0,
		0, 0, 0, 0, 0, 0,
	}
	if l := m.All(); !slices.Equal(l, want) {
		t.Fatalf("the cells are %d, not %d", l, want)
	}
	m = begun(t, planOf(t, api.Config{Workers: 1, Kind: 1, Size: 2, Nodes: 2}))
	want = []uint64{0, 0, 1, 1, 2, 0, 0, 0, 0, 0, 0, 0, 0, 0, 0}
	if l := m.All(); !slices.Equal(l, want) {
		t.Fatalf("the cells are %d, not %d", l, want)
	}
}

func TestInitOfAll(t *testing.T) {
	for _, c := range rights() {
		m := begun(t, planOf(t, c))
		if want := beginning(c); m.Len() != len(want) || !slices.Equal(m.All(), want) {
			t.Fatalf("%+v: %d cells, %d, not %d, %d", c, m.Len(), m.All(), len(want), want)
		}
	}
}

// Each part is empty by its own chapter, and all nodes but the first one are free.
func TestInitIsEmpty(t *testing.T) {
	for _, c := range few() {
		p := planOf(t, c)
		m := begun(t, p)
		if n, l, e := p.Yard().Look(m); n != 0 || len(l) != 0 || e != api.Fine {
			t.Fatalf("%+v: the yard tells %d, %d, %d", c, n, l, e)
		}
		if l, e := p.Line().All(m); len(l) != 0 || e != api.Fine {
			t.Fatalf("%+v: the queue tells %d, %d", c, l, e)
		}
		free, e := p.Line().Arena().Free(m)
		if e != api.Fine || len(free) != c.Nodes-1 {
			t.Fatalf("%+v: %d nodes are free, %d", c, len(free), e)
		}
		for i, node := range free {
			if node != i+2 {
				t.Fatalf("%+v: the nodes %d are free", c, free)
			}
		}
		for i := range c.Workers {
			if epoch, means, e := p.Spot(i).Look(m); epoch != 0 || means || e != api.Fine {
				t.Fatalf("%+v: the parker of %d tells %d, %t, %d", c, i, epoch, means, e)
			}
			if l, e := rowOf(p, i).All(m); len(l) != 0 || e != api.Fine {
				t.Fatalf("%+v: the row of %d tells %d, %d", c, i, l, e)
			}
		}
	}
}

// Each memory is another one: what is done with one is seen in no other.
func TestInitIsTheCallers(t *testing.T) {
	c := api.Config{Workers: 2, Kind: 1, Size: 4, Nodes: 3}
	p := planOf(t, c)
	first, other := begun(t, p), begun(t, p)
	first.Fill(slices.Repeat([]uint64{math.MaxUint64}, first.Len()))
	if want := beginning(c); !slices.Equal(other.All(), want) || !slices.Equal(begun(t, p).All(), want) {
		t.Fatal("one memory's cells are another one's")
	}
	for _, v := range first.All() {
		if v != math.MaxUint64 {
			t.Fatal("a memory was begun anew")
		}
	}
	isPlan(t, p, c, placesOf(c))
}

// P12.1 and P12.2 together: all parts are used to the full, side by side.

// row is a local row of either kind.
type row interface {
	Push(v uint64) *walk.Walk
	Pop() *walk.Walk
	All(m *cells.Mem) ([]uint64, api.Code)
}

func rowOf(p plan.Plan, i int) row {
	if p.Config().Kind == api.Ring {
		return ring.Row{At: p.Local(i), Size: p.Config().Size}
	}
	return deque.Row{At: p.Local(i), Size: p.Config().Size}
}

// does does a walk's steps, one behind the other.
func does(t *testing.T, m *cells.Mem, w *walk.Walk) api.Result {
	t.Helper()
	for a, ok := w.Want(); ok; a, ok = w.Want() {
		v, won, e := m.Do(a)
		if e != api.Fine {
			t.Fatalf("%+v: told %d", a, e)
		}
		w.Give(v, won)
	}
	r, _ := w.Result()
	return r
}

func isDone(t *testing.T, m *cells.Mem, w *walk.Walk, want uint64) {
	t.Helper()
	if r := does(t, m, w); r.Code != api.Fine || r.V != want {
		t.Fatalf("told %+v, not %d", r, want)
	}
}

// task is one that no other place has.
func task(i, n int) uint64 { return uint64(i+1)<<32 + uint64(n) }

// fill fills each part of a plan.
func fill(t *testing.T, p plan.Plan, m *cells.Mem) {
	t.Helper()
	c := p.Config()
	for i := range c.Workers {
		isDone(t, m, p.Spot(i).Prepare(), 0)
		isDone(t, m, p.Yard().Sleep(i), 0)
		for n := range c.Size {
			isDone(t, m, rowOf(p, i).Push(task(i, n)), 0)
		}
		for range i + 1 {
			does(t, m, p.Spot(i).Call())
		}
	}
	for n := range c.Nodes - 1 {
		isDone(t, m, p.Line().Put([]uint64{task(c.Workers, n)}), 0)
	}
}

func isFull(t *testing.T, p plan.Plan, m *cells.Mem) {
	t.Helper()
	c := p.Config()
	if n, l, e := p.Yard().Look(m); n != 0 || len(l) != c.Workers || e != api.Fine {
		t.Fatalf("%+v: the yard tells %d, %d, %d", c, n, l, e)
	}
	for i := range c.Workers {
		if epoch, means, e := p.Spot(i).Look(m); int(epoch) != i+1 || !means || e != api.Fine {
			t.Fatalf("%+v: the parker of %d tells %d, %t, %d", c, i, epoch, means, e)
		}
		l, e := rowOf(p, i).All(m)
		isRow(t, l, e, i, c.Size)
	}
	l, e := p.Line().All(m)
	isRow(t, l, e, c.Workers, c.Nodes-1)
}

// isRow holds what was told to be all tasks of a place, in order.
func isRow(t *testing.T, l []uint64, e api.Code, i, n int) {
	t.Helper()
	if e != api.Fine || len(l) != n {
		t.Fatalf("%d tasks of %d, %d", len(l), i, e)
	}
	for k, v := range l {
		if v != task(i, k) {
			t.Fatalf("the task %d of %d is %d", k, i, v)
		}
	}
}

func TestPartsSideBySide(t *testing.T) {
	for _, c := range few() {
		p := planOf(t, c)
		m := begun(t, p)
		fill(t, p, m)
		isFull(t, p, m)
		if r := does(t, m, p.Line().Put([]uint64{1})); r.Code != api.NoMem {
			t.Fatalf("%+v: told %+v", c, r)
		}
		for i := range c.Workers {
			want := task(i, 0)
			if c.Kind == api.Deque {
				want = task(i, c.Size-1)
			}
			isDone(t, m, rowOf(p, i).Pop(), want)
		}
		isDone(t, m, p.Line().Take(), task(c.Workers, 0))
	}
}
