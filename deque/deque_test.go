package deque_test

import (
	"math"
	"math/big"
	"slices"
	"testing"

	"coachyard/api"
	"coachyard/cells"
	"coachyard/deque"
	"coachyard/loom"
	"coachyard/walk"
)

const (
	all  = math.MaxUint64
	half = 1 << 63
)

// ends are numbers at and beside the ends of sizes, cells and int.
func ends() []int {
	return []int{math.MinInt, math.MinInt + 1, -1 << 32, -api.MaxCells, -256, -4, -2, -1, 0, 1, 2, 3, 4, 5, 6, 7, 8, 12, 16, 31, 32, 33, 63, 64, 65, 127, 128, 129,
		254, 255, 256, 257, 258, 384, 511, 512, 1024, api.MaxCells - 513, api.MaxCells - 512, api.MaxCells - 259, api.MaxCells - 258, api.MaxCells - 257, api.MaxCells - 256,
		api.MaxCells - 10, api.MaxCells - 6, api.MaxCells - 5, api.MaxCells - 4, api.MaxCells - 3, api.MaxCells - 2, api.MaxCells - 1, api.MaxCells, api.MaxCells + 1,
		1 << 32, 1<<32 + 2, 1 << 62, math.MaxInt - api.MaxCells, math.MaxInt - 257, math.MaxInt - 3, math.MaxInt - 2, math.MaxInt - 1, math.MaxInt}
}

// counts are tops and bottoms at and beside the places where they go round, or look like falling ones.
func counts() []uint64 {
	var l []uint64
	for _, middle := range []uint64{0, 256, 1 << 32, half, half + 256} {
		for _, by := range []uint64{0, 1, 2, 3, 4, 5, 255, 256, 257} {
			l = append(l, middle+by, middle-by)
		}
	}
	slices.Sort(l)
	return slices.Compact(l)
}

func sizes() []int {
	return []int{2, 4, 8, 16, 32, 64, 128, 256}
}

// wrong are deques that aren't right.
func wrong() []deque.Row {
	return []deque.Row{{}, {0, 1}, {0, 3}, {0, 5}, {0, 6}, {0, 12}, {0, 255}, {0, 257}, {0, 384}, {0, 512}, {0, 1 << 32}, {0, 1 << 62}, {0, -1}, {0, -2}, {0, -4}, {0, math.MinInt}, {0, math.MaxInt},
		{-1, 2}, {-1, 4}, {-4, 4}, {-6, 4}, {math.MinInt, 4}, {math.MinInt, math.MinInt}, {math.MaxInt, math.MaxInt}, {math.MaxInt, 4}, {math.MaxInt - 4, 4}, {math.MaxInt - 5, 4},
		{65533, 2}, {65531, 4}, {65532, 4}, {65279, 256}, {65280, 256}, {65535, 2}, {65536, 4}, {1 << 32, 4}}
}

// aheadOf tells by the chapter's words how far b is ahead of t.
func aheadOf(b, t uint64) int64 {
	round := new(big.Int).Lsh(big.NewInt(1), 64)
	d := new(big.Int).Sub(new(big.Int).SetUint64(b), new(big.Int).SetUint64(t))
	if d.Cmp(big.NewInt(math.MaxInt64)) > 0 {
		d.Sub(d, round)
	}
	if d.Cmp(big.NewInt(math.MinInt64)) < 0 {
		d.Add(d, round)
	}
	if !d.IsInt64() {
		panic("a number that can't be")
	}
	return d.Int64()
}

// slot tells by the chapter's words the cell of the slot of n.
func slot(d deque.Row, n uint64) int {
	left := new(big.Int).Mod(new(big.Int).SetUint64(n), big.NewInt(int64(d.Size)))
	return d.At + 2 + int(left.Int64())
}

// memory is one of just these cells.
func memory(t *testing.T, l ...uint64) *cells.Mem {
	t.Helper()
	m, e := cells.New(len(l))
	if e != api.Fine || m.Fill(l) != api.Fine {
		t.Fatal(e)
	}
	return m
}

// filled is a memory of n cells, all of them v.
func filled(t *testing.T, n int, v uint64) *cells.Mem {
	t.Helper()
	return memory(t, slices.Repeat([]uint64{v}, n)...)
}

func isCells(t *testing.T, m *cells.Mem, want ...uint64) {
	t.Helper()
	if l := m.All(); !slices.Equal(l, want) {
		t.Fatalf("the cells are %#x, not %#x", l, want)
	}
}

func told(t *testing.T, got, want api.Code) {
	t.Helper()
	if got != want {
		t.Fatalf("told %d, not %d", got, want)
	}
}

func isIn(t *testing.T, d deque.Row, m *cells.Mem, want ...uint64) {
	t.Helper()
	if l, e := d.All(m); e != api.Fine || !slices.Equal(l, want) {
		t.Fatalf("in it are %d, %d, not %d", l, e, want)
	}
}

func load(cell int) api.Access {
	return api.Access{Kind: api.Load, Cell: cell}
}

func store(cell int, v uint64) api.Access {
	return api.Access{Kind: api.Store, Cell: cell, A: v}
}

func cas(cell int, from, to uint64) api.Access {
	return api.Access{Kind: api.Cas, Cell: cell, A: from, B: to}
}

// P7.1

func TestRight(t *testing.T) {
	for _, d := range []deque.Row{{0, 2}, {0, 4}, {7, 8}, {1, 16}, {0, 32}, {0, 64}, {3, 128}, {0, 256}, {65532, 2}, {65530, 4}, {65529, 4}, {65526, 8}, {65278, 256}, {65277, 256}} {
		if !d.Right() {
			t.Errorf("%+v isn't right", d)
		}
	}
	for _, d := range wrong() {
		if d.Right() {
			t.Errorf("%+v is right", d)
		}
	}
}

// By its words, in sums that can't go round: numbers outside of the limits are held against them one by one first.
func TestRightAtAllEnds(t *testing.T) {
	right := 0
	for _, at := range append(ends(), 65278, 65279, 65406, 65407, 65470, 65502, 65518, 65519, 65526, 65527, 65530, 65531, 65532, 65533) {
		for _, size := range ends() {
			want := false
			if at >= 0 && at < 65536 && slices.Contains(sizes(), size) {
				want = at+size+1 < 65536
			}
			if want {
				right++
			}
			if d := (deque.Row{At: at, Size: size}); d.Right() != want {
				t.Errorf("%+v is right: %t", d, d.Right())
			}
		}
	}
	if right == 0 {
		t.Error("none was right")
	}
	for size := -1; size < 600; size++ {
		if (deque.Row{Size: size}).Right() != slices.Contains(sizes(), size) {
			t.Errorf("of the size %d", size)
		}
	}
}

// step is an access that a walk must want, what it must hold then, and what is given to it.
type step struct {
	want api.Access
	v    uint64
	won  bool
	held []uint64
}

// goes gives w what the steps tell, and looks that it wants and holds just these, and ends behind them, not ahead.
func goes(t *testing.T, w *walk.Walk, end api.Result, steps ...step) {
	t.Helper()
	for i, s := range steps {
		if a, ok := w.Want(); !ok || a != s.want {
			t.Fatalf("step %d: it wants %+v, %t, not %+v", i, a, ok, s.want)
		}
		if r, ok := w.Result(); ok || r.Code != 0 || r.V != 0 || len(r.L) != 0 {
			t.Fatalf("step %d: it has ended with %+v", i, r)
		}
		holds(t, w, s.held...)
		w.Give(s.v, s.won)
	}
	isEnded(t, w, end)
	// What is given then changes nothing.
	w.Give(3, true)
	w.Give(0, false)
	isEnded(t, w, end)
}

func isEnded(t *testing.T, w *walk.Walk, end api.Result) {
	t.Helper()
	if r, ok := w.Result(); !ok || r.Code != end.Code || r.V != end.V || len(r.L) != 0 {
		t.Fatalf("it ended with %+v, %t, not with %+v", r, ok, end)
	}
	if a, ok := w.Want(); ok || a != (api.Access{}) {
		t.Fatalf("it has ended, and wants %+v", a)
	}
	holds(t, w)
}

func holds(t *testing.T, w *walk.Walk, want ...uint64) {
	t.Helper()
	if l := w.Held(); !slices.Equal(l, want) {
		t.Fatalf("it holds %d, not %d", l, want)
	}
}

// pushes tells all steps of a push of v, by the chapter's words, where b and top are told.
func pushes(d deque.Row, v, b, top uint64, won bool) (api.Result, []step) {
	held := []uint64{v}
	l := []step{{load(d.At + 1), b, won, held}, {load(d.At), top, won, held}}
	if aheadOf(b, top) >= int64(d.Size) {
		return api.Result{Code: api.Full}, l
	}
	return api.Result{}, append(l, step{store(slot(d, b), v), 77, won, held}, step{store(d.At+1, b+1), 78, won, held})
}

// pops tells all steps of a pop, where bottom, top and v are told; claimed tells whether its Cas wins.
func pops(d deque.Row, bottom, top, v uint64, won, claimed bool) (api.Result, []step) {
	b := bottom - 1
	by := aheadOf(b, top)
	l := []step{{load(d.At + 1), bottom, won, nil}, {store(d.At+1, b), 79, won, nil}, {load(d.At), top, won, nil}}
	if by < 0 {
		return api.Result{Code: api.Empty}, append(l, step{store(d.At+1, bottom), 80, won, nil})
	}
	l = append(l, step{load(slot(d, b)), v, won, nil})
	if by > 0 {
		return api.Result{V: v}, l
	}
	l = append(l, step{cas(d.At, top, top+1), top, claimed, nil})
	if !claimed {
		return api.Result{Code: api.Empty}, append(l, step{store(d.At+1, bottom), 81, won, nil})
	}
	return api.Result{V: v}, append(l, step{store(d.At+1, bottom), 82, won, []uint64{v}})
}

// steals tells all steps of a steal, where top, b and v are told.
func steals(d deque.Row, top, b, v uint64, won, claimed bool) (api.Result, []step) {
	l := []step{{load(d.At), top, won, nil}, {load(d.At + 1), b, won, nil}}
	if aheadOf(b, top) < 1 {
		return api.Result{Code: api.Empty}, l
	}
	l = append(l, step{load(slot(d, top)), v, won, nil}, step{cas(d.At, top, top+1), 83, claimed, nil})
	if !claimed {
		return api.Result{Code: api.Abort}, l
	}
	return api.Result{V: v}, l
}

// Written out, for those who don't trust the words' reckoning.
func TestPushWrittenOut(t *testing.T) {
	d := deque.Row{At: 10, Size: 4}
	held := []uint64{50}
	goes(t, d.Push(50), api.Result{}, step{load(11), 0, true, held}, step{load(10), 0, true, held}, step{store(12, 50), 9, true, held}, step{store(11, 1), 0, true, held})
	goes(t, d.Push(50), api.Result{}, step{load(11), 5, true, held}, step{load(10), 2, true, held}, step{store(13, 50), 9, true, held}, step{store(11, 6), 5, true, held})
	goes(t, d.Push(50), api.Result{Code: api.Full}, step{load(11), 5, true, held}, step{load(10), 1, true, held})
	goes(t, d.Push(50), api.Result{Code: api.Full}, step{load(11), 6, true, held}, step{load(10), 1, true, held})
	goes(t, d.Push(50), api.Result{Code: api.Full}, step{load(11), 3, true, held}, step{load(10), all, true, held})
	goes(t, d.Push(50), api.Result{}, step{load(11), 2, true, held}, step{load(10), all, true, held}, step{store(14, 50), 9, true, held}, step{store(11, 3), 0, true, held})
	goes(t, d.Push(50), api.Result{}, step{load(11), all, true, held}, step{load(10), all, true, held}, step{store(15, 50), 9, true, held}, step{store(11, 0), 0, true, held})
	// Behind the top is no room less, however far.
	goes(t, d.Push(50), api.Result{}, step{load(11), 0, true, held}, step{load(10), 1, true, held}, step{store(12, 50), 9, true, held}, step{store(11, 1), 0, true, held})
	goes(t, d.Push(50), api.Result{}, step{load(11), 0, true, held}, step{load(10), half, true, held}, step{store(12, 50), 9, true, held}, step{store(11, 1), 0, true, held})
	goes(t, d.Push(50), api.Result{Code: api.Full}, step{load(11), 0, true, held}, step{load(10), half + 1, true, held})
}

func TestPopWrittenOut(t *testing.T) {
	d := deque.Row{At: 10, Size: 4}
	goes(t, d.Pop(), api.Result{Code: api.Empty}, step{load(11), 0, true, nil}, step{store(11, all), 0, true, nil}, step{load(10), 0, true, nil}, step{store(11, 0), all, true, nil})
	goes(t, d.Pop(), api.Result{Code: api.Empty}, step{load(11), 3, true, nil}, step{store(11, 2), 3, true, nil}, step{load(10), 7, true, nil}, step{store(11, 3), 2, true, nil})
	goes(t, d.Pop(), api.Result{V: 60}, step{load(11), 7, true, nil}, step{store(11, 6), 7, true, nil}, step{load(10), 5, true, nil}, step{load(14), 60, true, nil})
	goes(t, d.Pop(), api.Result{V: 60}, step{load(11), 0, true, nil}, step{store(11, all), 0, true, nil}, step{load(10), all - 1, true, nil}, step{load(15), 60, true, nil})
	last := []step{{load(11), 7, true, nil}, {store(11, 6), 7, true, nil}, {load(10), 6, true, nil}, {load(14), 60, true, nil}}
	goes(t, d.Pop(), api.Result{V: 60}, append(last, step{cas(10, 6, 7), 6, true, nil}, step{store(11, 7), 6, true, []uint64{60}})...)
	goes(t, d.Pop(), api.Result{Code: api.Empty}, append(last, step{cas(10, 6, 7), 7, false, nil}, step{store(11, 7), 6, true, nil})...)
	goes(t, d.Pop(), api.Result{V: 60}, step{load(11), 0, true, nil}, step{store(11, all), 0, true, nil}, step{load(10), all, true, nil}, step{load(15), 60, true, nil},
		step{cas(10, all, 0), all, true, nil}, step{store(11, 0), all, true, []uint64{60}})
	// As far ahead, and as far behind, as can be.
	goes(t, d.Pop(), api.Result{V: 60}, step{load(11), half, true, nil}, step{store(11, half-1), 0, true, nil}, step{load(10), 0, true, nil}, step{load(15), 60, true, nil})
	goes(t, d.Pop(), api.Result{Code: api.Empty}, step{load(11), half + 1, true, nil}, step{store(11, half), 0, true, nil}, step{load(10), 0, true, nil}, step{store(11, half+1), 0, true, nil})
}

func TestStealWrittenOut(t *testing.T) {
	d := deque.Row{At: 10, Size: 4}
	goes(t, d.Steal(), api.Result{Code: api.Empty}, step{load(10), 0, true, nil}, step{load(11), 0, true, nil})
	goes(t, d.Steal(), api.Result{Code: api.Empty}, step{load(10), 5, true, nil}, step{load(11), 4, true, nil})
	goes(t, d.Steal(), api.Result{Code: api.Empty}, step{load(10), 0, true, nil}, step{load(11), all, true, nil})
	goes(t, d.Steal(), api.Result{Code: api.Empty}, step{load(10), 0, true, nil}, step{load(11), half, true, nil})
	goes(t, d.Steal(), api.Result{V: 70}, step{load(10), 5, true, nil}, step{load(11), 6, true, nil}, step{load(13), 70, true, nil}, step{cas(10, 5, 6), 5, true, nil})
	goes(t, d.Steal(), api.Result{Code: api.Abort}, step{load(10), 5, true, nil}, step{load(11), 6, true, nil}, step{load(13), 70, true, nil}, step{cas(10, 5, 6), 6, false, nil})
	goes(t, d.Steal(), api.Result{V: 70}, step{load(10), all, true, nil}, step{load(11), 0, true, nil}, step{load(15), 70, true, nil}, step{cas(10, all, 0), all, true, nil})
	goes(t, d.Steal(), api.Result{V: 70}, step{load(10), 1, true, nil}, step{load(11), half, true, nil}, step{load(13), 70, true, nil}, step{cas(10, 1, 2), 1, true, nil})
}

// Whatever is told, and whether a Load or Store is said to have won or not.
func TestStepByStep(t *testing.T) {
	for n, size := range sizes() {
		d := deque.Row{At: []int{0, 9, api.MaxCells - size - 2}[n%3], Size: size}
		for i, b := range counts() {
			for j, top := range counts() {
				v, won, claimed := b*7+top*11+5, (i+j)%2 == 0, (i+j)%3 == 0
				end, l := pushes(d, v, b, top, won)
				goes(t, d.Push(v), end, l...)
				end, l = pops(d, b, top, v, won, claimed)
				goes(t, d.Pop(), end, l...)
				end, l = steals(d, top, b, v, won, claimed)
				goes(t, d.Steal(), end, l...)
			}
		}
	}
}

// A task may be any word, and none that is met elsewhere is taken for another thing.
func TestTasksOfAllKinds(t *testing.T) {
	d := deque.Row{At: 3, Size: 2}
	for _, v := range counts() {
		for _, claimed := range []bool{true, false} {
			end, l := pushes(d, v, 9, 8, true)
			goes(t, d.Push(v), end, l...)
			end, l = pops(d, 9, 8, v, true, claimed)
			goes(t, d.Pop(), end, l...)
			end, l = pops(d, 9, 7, v, true, claimed)
			goes(t, d.Pop(), end, l...)
			end, l = steals(d, 8, 9, v, true, claimed)
			goes(t, d.Steal(), end, l...)
		}
	}
}

func TestWalksOfWrongDeques(t *testing.T) {
	for _, d := range wrong() {
		for _, w := range []*walk.Walk{d.Push(5), d.Pop(), d.Steal()} {
			goes(t, w, api.Result{Code: api.Arg})
		}
	}
}

// broken breaks a walk behind each of its steps, and looks that it has ended just so, and holds nothing then.
func broken(t *testing.T, begin func() *walk.Walk, steps []step) {
	t.Helper()
	for n := range len(steps) {
		w := begin()
		for _, s := range steps[:n] {
			w.Give(s.v, s.won)
		}
		holds(t, w, steps[n].held...)
		w.Break(api.Lost)
		goes(t, w, api.Result{Code: api.Lost})
	}
}

// They hold tasks till they have ended, by whomever.
func TestBrokenFromOutside(t *testing.T) {
	d := deque.Row{At: 3, Size: 4}
	_, l := pushes(d, 6, 9, 8, true)
	broken(t, func() *walk.Walk { return d.Push(6) }, l)
	_, l = pops(d, 9, 8, 6, true, true)
	broken(t, d.Pop, l)
	_, l = pops(d, 9, 9, 6, true, true)
	broken(t, d.Pop, l)
	_, l = steals(d, 8, 9, 6, true, true)
	broken(t, d.Steal, l)
}

// A loom breaks those that want a cell that isn't there.
func TestWithoutCells(t *testing.T) {
	d := deque.Row{At: 2, Size: 4}
	for n := 1; n <= 6; n++ {
		m := filled(t, n, 0)
		l, _ := loom.New(m, 3)
		for who, c := range []struct {
			w    *walk.Walk
			most int // so many cells are too few for it
			end  api.Result
		}{{d.Push(5), 4, api.Result{}}, {d.Pop(), 3, api.Result{Code: api.Empty}}, {d.Steal(), 3, api.Result{Code: api.Empty}}} {
			m.Fill(make([]uint64, n))
			told(t, l.Start(who, c.w), api.Fine)
			l.Alone(who, 10)
			if n <= c.most {
				c.end = api.Result{Code: api.Broken}
			}
			isEnded(t, c.w, c.end)
		}
	}
}

// R6: what is kept is kept by each walk for itself.
func TestSideBySide(t *testing.T) {
	c, d := deque.Row{At: 0, Size: 2}, deque.Row{At: 9, Size: 8}
	type under struct {
		w     *walk.Walk
		end   api.Result
		steps []step
	}
	var l []under
	for i, row := range []deque.Row{c, d, c, d} {
		n := uint64(i * 10)
		end, steps := pushes(row, n+5, n+1, n, true)
		l = append(l, under{row.Push(n + 5), end, steps})
		end, steps = pops(row, n+1, n, n+6, true, i > 1)
		l = append(l, under{row.Pop(), end, steps})
		end, steps = steals(row, n, n+1, n+7, true, i > 1)
		l = append(l, under{row.Steal(), end, steps})
	}
	for i := range 6 {
		for _, u := range l {
			if i >= len(u.steps) {
				isEnded(t, u.w, u.end)
				continue
			}
			if a, ok := u.w.Want(); !ok || a != u.steps[i].want {
				t.Fatalf("it wants %+v, %t, not %+v", a, ok, u.steps[i].want)
			}
			holds(t, u.w, u.steps[i].held...)
			u.w.Give(u.steps[i].v, u.steps[i].won)
		}
	}
}

// A walk goes into them, wants and ends as they do, and holds what they hold.
func TestGoneInto(t *testing.T) {
	d := deque.Row{At: 0, Size: 2}
	w := walk.New(func(w *walk.Walk) {
		w.Hold([]uint64{1})
		w.Into(d.Push(2), func(p api.Result) {
			w.Into(d.Pop(), func(r api.Result) {
				w.Into(d.Steal(), func(s api.Result) { w.Hold(nil); w.End(api.Result{Code: s.Code + p.Code, V: r.V + 40}) })
			})
		})
	})
	goes(t, w, api.Result{Code: api.Empty, V: 42},
		step{load(1), 3, true, []uint64{1, 2}}, step{load(0), 3, true, []uint64{1, 2}}, step{store(3, 2), 0, true, []uint64{1, 2}}, step{store(1, 4), 3, true, []uint64{1, 2}},
		step{load(1), 4, true, []uint64{1}}, step{store(1, 3), 4, true, []uint64{1}}, step{load(0), 3, true, []uint64{1}}, step{load(3), 2, true, []uint64{1}},
		step{cas(0, 3, 4), 3, true, []uint64{1}}, step{store(1, 4), 3, true, []uint64{1, 2}},
		step{load(0), 4, true, []uint64{1}}, step{load(1), 4, true, []uint64{1}})
}

// P7.2

func TestAll(t *testing.T) {
	d := deque.Row{At: 1, Size: 4}
	for _, c := range []struct {
		top, bottom uint64
		in          []uint64
		e           api.Code
	}{
		{0, 0, nil, api.Fine},
		{0, 1, []uint64{60}, api.Fine},
		{0, 4, []uint64{60, 61, 62, 63}, api.Fine},
		{0, 5, nil, api.Broken},
		{0, 6, nil, api.Broken},
		{0, all, nil, api.Fine},
		{0, all - 1, nil, api.Broken},
		{5, 4, nil, api.Fine},
		{5, 3, nil, api.Broken},
		{5, 0, nil, api.Broken},
		{5, 5, nil, api.Fine},
		{5, 7, []uint64{61, 62}, api.Fine},
		{5, 9, []uint64{61, 62, 63, 60}, api.Fine},
		{5, 10, nil, api.Broken},
		{all, 0, []uint64{63}, api.Fine},
		{all, 3, []uint64{63, 60, 61, 62}, api.Fine},
		{all, 4, nil, api.Broken},
		{all - 1, 1, []uint64{62, 63, 60}, api.Fine},
		{all, all - 1, nil, api.Fine},
		{all, all - 2, nil, api.Broken},
		{half - 1, half + 1, []uint64{63, 60}, api.Fine},
		{half, half - 1, nil, api.Fine},
		{0, half, nil, api.Broken},
		{0, half - 1, nil, api.Broken},
		{half, 0, nil, api.Broken},
		{half + 1, 0, nil, api.Broken},
		{half, all, nil, api.Broken},
	} {
		want := []uint64{9, c.top, c.bottom, 60, 61, 62, 63, 9}
		m := memory(t, want...)
		l, e := d.All(m)
		if e != c.e || !slices.Equal(l, c.in) {
			t.Errorf("top %d, bottom %d: in it are %d, %d, not %d, %d", c.top, c.bottom, l, e, c.in, c.e)
		}
		isCells(t, m, want...)
	}
}

// By the chapter's words, of all sizes, wherever the top and the bottom stand.
func TestAllOfAllSizes(t *testing.T) {
	fine, codes := 0, map[api.Code]int{}
	for _, size := range sizes() {
		for _, at := range []int{0, 3} {
			d := deque.Row{At: at, Size: size}
			m := filled(t, at+size+2, 0)
			for n := range size {
				m.Do(store(at+2+n, uint64(n)*5+1))
			}
			for _, top := range counts() {
				for _, b := range append(counts(), top-3, top-2, top-1, top, top+1, top+uint64(size)-1, top+uint64(size), top+uint64(size)+1) {
					m.Do(store(at, top))
					m.Do(store(at+1, b))
					by := aheadOf(b, top)
					want, code := []uint64(nil), api.Fine
					if by < -1 || by > int64(size) {
						code = api.Broken
					}
					for n := top; code == api.Fine && by > 0 && n != b; n++ {
						want = append(want, uint64(slot(d, n)-at-2)*5+1)
					}
					l, e := d.All(m)
					if e != code || !slices.Equal(l, want) {
						t.Fatalf("%+v, top %d, bottom %d: in it are %d, %d, not %d, %d", d, top, b, l, e, want, code)
					}
					codes[e]++
					fine += len(l)
				}
			}
		}
	}
	if fine == 0 || codes[api.Fine] == 0 || codes[api.Broken] == 0 || len(codes) != 2 {
		t.Error(fine, codes)
	}
}

// At the end of the greatest memory there is, too.
func TestAllOfTheLast(t *testing.T) {
	d := deque.Row{At: api.MaxCells - 258, Size: 256}
	m := filled(t, api.MaxCells, 0)
	var want []uint64
	for n := range uint64(256) {
		m.Do(store(d.At+2+int(n), n+1))
		want = append(want, n+1)
	}
	m.Do(store(d.At+1, 256))
	isIn(t, d, m, want...)
	m.Do(store(d.At, 255))
	isIn(t, d, m, 256)
	m.Do(store(d.At+1, 511))
	isIn(t, d, m, append([]uint64{256}, want[:255]...)...)
}

// A memory that ends with the last slot has room enough, and one with a cell less hasn't.
func TestPlace(t *testing.T) {
	for _, size := range []int{2, 4, 256} {
		for at := range 3 {
			d := deque.Row{At: at, Size: size}
			for n := 1; n <= at+size+3; n++ {
				m := filled(t, n, 0)
				want := api.Fine
				if n < at+size+2 {
					want = api.Place
				}
				l, e := d.All(m)
				if e != want || len(l) != 0 {
					t.Errorf("%+v of %d cells: %d, %d", d, n, l, e)
				}
			}
		}
	}
	_, e := deque.Row{At: 0, Size: 2}.All(new(cells.Mem))
	told(t, e, api.Place)
}

// Nil ahead of Arg, Arg ahead of Place, Place ahead of Broken.
func TestAllRefuses(t *testing.T) {
	for _, d := range append(wrong(), deque.Row{At: 0, Size: 4}) {
		if l, e := d.All(nil); e != api.Nil || len(l) != 0 {
			t.Errorf("%+v: %d, %d", d, l, e)
		}
	}
	m := memory(t, 1, 9, 5, 1, 1, 1)
	for _, d := range wrong() {
		if l, e := d.All(m); e != api.Arg || len(l) != 0 {
			t.Errorf("%+v: %d, %d", d, l, e)
		}
	}
	for _, d := range []deque.Row{{1, 4}, {0, 8}, {3, 2}, {5, 2}, {6, 2}, {0, 256}, {65278, 256}} {
		if l, e := d.All(m); e != api.Place || len(l) != 0 {
			t.Errorf("%+v: %d, %d", d, l, e)
		}
	}
	for _, d := range []deque.Row{{0, 4}, {0, 2}, {1, 2}} {
		if l, e := d.All(m); e != api.Broken || len(l) != 0 {
			t.Errorf("%+v: %d, %d", d, l, e)
		}
	}
	isCells(t, m, 1, 9, 5, 1, 1, 1)
}

// R4: each time it is asked, another list is told.
func TestAllIsTheCallers(t *testing.T) {
	d := deque.Row{At: 0, Size: 4}
	m := memory(t, 0, 3, 60, 61, 62, 63)
	l, _ := d.All(m)
	l[0], l[2] = 50, 51
	_ = append(l[:1], 70)
	isIn(t, d, m, 60, 61, 62)
	isCells(t, m, 0, 3, 60, 61, 62, 63)
}
