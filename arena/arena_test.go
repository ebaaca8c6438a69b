package arena_test

import (
	"math"
	"slices"
	"testing"

	"coachyard/api"
	"coachyard/arena"
	"coachyard/cells"
	"coachyard/walk"
	"coachyard/word"
)

const (
	top = math.MaxUint32
	all = math.MaxUint64
)

// ends are numbers at and beside the ends of nodes, cells and int.
func ends() []int {
	return []int{math.MinInt, math.MinInt + 1, -1 << 32, -api.MaxCells, -2, -1, 0, 1, 2, 3, api.MaxNodes - 1, api.MaxNodes, api.MaxNodes + 1,
		api.MaxCells - api.MaxNodes - 1, api.MaxCells - api.MaxNodes, api.MaxCells - 3, api.MaxCells - 2, api.MaxCells - 1, api.MaxCells, api.MaxCells + 1,
		1 << 32, 1<<32 + 1, math.MaxInt - api.MaxCells, math.MaxInt - api.MaxNodes, math.MaxInt - 2, math.MaxInt - 1, math.MaxInt}
}

// wrong are arenas that aren't right.
func wrong() []arena.Arena {
	return []arena.Arena{{}, {At: 5}, {At: 0, N: -1}, {At: -1, N: 1}, {At: -1, N: 3}, {At: math.MinInt, N: 3}, {At: 0, N: math.MinInt},
		{At: 0, N: api.MaxNodes + 1}, {At: 0, N: math.MaxInt}, {At: api.MaxCells - 1, N: 1}, {At: api.MaxCells, N: 1}, {At: math.MaxInt, N: 1},
		{At: math.MaxInt, N: math.MaxInt}, {At: math.MinInt, N: math.MinInt}, {At: api.MaxCells - api.MaxNodes, N: api.MaxNodes}, {At: -4, N: 4}, {At: 0, N: 1 << 32}, {At: 1 << 32, N: 1}}
}

// memory is one of just these cells.
func memory(t *testing.T, l ...uint64) *cells.Mem {
	t.Helper()
	m, e := cells.New(len(l))
	if e != api.Fine || m.Fill(l) != api.Fine {
		t.Fatal(e)
	}
	return m
}

// filled is a memory of n cells, all of them v.
func filled(t *testing.T, n int, v uint64) *cells.Mem {
	t.Helper()
	return memory(t, slices.Repeat([]uint64{v}, n)...)
}

func isCells(t *testing.T, m *cells.Mem, want ...uint64) {
	t.Helper()
	if l := m.All(); !slices.Equal(l, want) {
		t.Fatalf("the cells are %#x, not %#x", l, want)
	}
}

func told(t *testing.T, got, want api.Code) {
	t.Helper()
	if got != want {
		t.Fatalf("told %d, not %d", got, want)
	}
}

func isFree(t *testing.T, a arena.Arena, m *cells.Mem, want ...int) {
	t.Helper()
	if l, e := a.Free(m); e != api.Fine || !slices.Equal(l, want) {
		t.Fatalf("free are %v, %d, not %v", l, e, want)
	}
}

func load(cell int) api.Access {
	return api.Access{Kind: api.Load, Cell: cell}
}

func store(cell int, v uint64) api.Access {
	return api.Access{Kind: api.Store, Cell: cell, A: v}
}

func cas(cell int, from, to uint64) api.Access {
	return api.Access{Kind: api.Cas, Cell: cell, A: from, B: to}
}

// P6.1

func TestRight(t *testing.T) {
	for _, a := range []arena.Arena{{0, 1}, {0, 2}, {7, 3}, {0, api.MaxNodes}, {0, api.MaxNodes - 1}, {api.MaxCells - 2, 1}, {api.MaxCells - 4, 3},
		{api.MaxCells - api.MaxNodes - 1, api.MaxNodes}, {api.MaxCells - api.MaxNodes, api.MaxNodes - 1}, {61439, 4096}, {65534, 1}} {
		if !a.Right() {
			t.Errorf("%+v isn't right", a)
		}
	}
	for _, a := range wrong() {
		if a.Right() {
			t.Errorf("%+v is right", a)
		}
	}
}

// By its words, in sums that can't go round: numbers outside of the limits are held against them one by one first.
func TestRightAtAllEnds(t *testing.T) {
	right := 0
	for _, at := range ends() {
		for _, n := range ends() {
			want := false
			if at >= 0 && at < 65536 && n >= 1 && n <= 4096 {
				want = at+n < 65536
			}
			if want {
				right++
			}
			if a := (arena.Arena{At: at, N: n}); a.Right() != want {
				t.Errorf("%+v is right: %t", a, a.Right())
			}
		}
	}
	if right == 0 {
		t.Error("none was right")
	}
}

// begun is what an arena's cells are by the chapter's words.
func begun(n, first int) []uint64 {
	l := []uint64{0}
	if first != n+1 {
		l[0] = uint64(first)
	}
	for i := 1; i <= n; i++ {
		switch {
		case i < first, i == n:
			l = append(l, 0)
		default:
			l = append(l, uint64(i)+1)
		}
	}
	return l
}

func numbers(from, to int) []int {
	var l []int
	for i := from; i <= to; i++ {
		l = append(l, i)
	}
	return l
}

func TestInit(t *testing.T) {
	for _, c := range []struct {
		a     arena.Arena
		first int
		want  []uint64
	}{
		{arena.Arena{At: 2, N: 3}, 2, []uint64{9, 9, 2, 0, 3, 0, 9}},
		{arena.Arena{At: 2, N: 3}, 1, []uint64{9, 9, 1, 2, 3, 0, 9}},
		{arena.Arena{At: 2, N: 3}, 3, []uint64{9, 9, 3, 0, 0, 0, 9}},
		{arena.Arena{At: 2, N: 3}, 4, []uint64{9, 9, 0, 0, 0, 0, 9}},
		{arena.Arena{At: 0, N: 1}, 1, []uint64{1, 0, 9, 9, 9, 9, 9}},
		{arena.Arena{At: 0, N: 1}, 2, []uint64{0, 0, 9, 9, 9, 9, 9}},
		{arena.Arena{At: 5, N: 1}, 1, []uint64{9, 9, 9, 9, 9, 1, 0}},
		{arena.Arena{At: 0, N: 6}, 5, []uint64{5, 0, 0, 0, 0, 6, 0}},
	} {
		m := filled(t, 7, 9)
		told(t, c.a.Init(m, c.first), api.Fine)
		isCells(t, m, c.want...)
	}
}

// Whatever was there, only the arena's own cells are made anew, and wholly.
func TestInitOfAllSizes(t *testing.T) {
	for n := 1; n <= 8; n++ {
		for first := 1; first <= n+1; first++ {
			for at := range 4 {
				for _, junk := range []uint64{0, 1, 3 << 32, all} {
					a := arena.Arena{At: at, N: n}
					m := filled(t, at+n+3, junk)
					told(t, a.Init(m, first), api.Fine)
					want := slices.Concat(slices.Repeat([]uint64{junk}, at), begun(n, first), []uint64{junk, junk})
					isCells(t, m, want...)
					isFree(t, a, m, numbers(first, n)...)
				}
			}
		}
	}
}

func TestInitOfTheGreatest(t *testing.T) {
	a := arena.Arena{At: api.MaxCells - api.MaxNodes - 1, N: api.MaxNodes}
	for _, first := range []int{1, 2, 4095, 4096, 4097} {
		m := filled(t, api.MaxCells, all)
		told(t, a.Init(m, first), api.Fine)
		isCells(t, m, slices.Concat(slices.Repeat([]uint64{all}, 61439), begun(4096, first))...)
		isFree(t, a, m, numbers(first, 4096)...)
	}
}

// A memory that ends with the last node's link has room enough.
func TestPlace(t *testing.T) {
	for n := 1; n <= 4; n++ {
		for at := range 3 {
			a := arena.Arena{At: at, N: n}
			for size := 1; size <= at+n+2; size++ {
				want := api.Fine
				if size < at+n+1 {
					want = api.Place
				}
				m := filled(t, size, 0)
				told(t, a.Init(m, 1), want)
				l, e := a.Free(m)
				told(t, e, want)
				if want == api.Place && (len(l) != 0 || !slices.Equal(m.All(), make([]uint64, size))) {
					t.Error("something is done, or told", l, m.All())
				}
			}
		}
	}
	m := new(cells.Mem)
	told(t, arena.Arena{At: 0, N: 1}.Init(m, 1), api.Place)
	_, e := arena.Arena{At: 0, N: 1}.Free(m)
	told(t, e, api.Place)
}

// Nil ahead of Arg, Arg ahead of Place; what is refused changes nothing.
func TestInitRefuses(t *testing.T) {
	small := filled(t, 1, 7)
	great := filled(t, api.MaxCells, 7)
	for _, a := range append(wrong(), arena.Arena{At: 0, N: 1}, arena.Arena{At: 3, N: 4}, arena.Arena{At: 61439, N: 4096}) {
		for _, first := range append(ends(), 4, 5, 6, 4097, 4098, a.N, a.N+1, a.N+2, a.N-1) {
			told(t, a.Init(nil, first), api.Nil)
			fits := false
			for i := 1; a.Right() && i <= a.N+1 && !fits; i++ {
				fits = i == first
			}
			if !fits {
				told(t, a.Init(small, first), api.Arg)
				told(t, a.Init(great, first), api.Arg)
			} else {
				told(t, a.Init(small, first), api.Place)
			}
		}
	}
	isCells(t, small, 7)
	if !slices.Equal(great.All(), slices.Repeat([]uint64{7}, api.MaxCells)) {
		t.Error("something has changed")
	}
}

// P6.2

// step is an access that a walk must want, and what is given to it.
type step struct {
	want api.Access
	v    uint64
	won  bool
}

// goes gives w what the steps tell, and looks that it wants just these, and ends behind them, not ahead.
func goes(t *testing.T, w *walk.Walk, end api.Result, steps ...step) {
	t.Helper()
	for i, s := range steps {
		if a, ok := w.Want(); !ok || a != s.want {
			t.Fatalf("step %d: it wants %+v, %t, not %+v", i, a, ok, s.want)
		}
		if r, ok := w.Result(); ok || r.Code != 0 || r.V != 0 || len(r.L) != 0 {
			t.Fatalf("step %d: it has ended with %+v", i, r)
		}
		holdsNothing(t, w)
		w.Give(s.v, s.won)
	}
	isEnded(t, w, end)
	// What is given then changes nothing.
	w.Give(3, true)
	w.Give(0, false)
	isEnded(t, w, end)
}

func isEnded(t *testing.T, w *walk.Walk, end api.Result) {
	t.Helper()
	if r, ok := w.Result(); !ok || r.Code != end.Code || r.V != end.V || len(r.L) != 0 {
		t.Fatalf("it ended with %+v, %t, not with %+v", r, ok, end)
	}
	if a, ok := w.Want(); ok || a != (api.Access{}) {
		t.Fatalf("it has ended, and wants %+v", a)
	}
	holdsNothing(t, w)
}

func holdsNothing(t *testing.T, w *walk.Walk) {
	t.Helper()
	if l := w.Held(); len(l) != 0 {
		t.Fatalf("it holds %v", l)
	}
}

func pair(hi, lo uint32) uint64 { return word.Pair(hi, lo) }

func taken(node uint64) api.Result { return api.Result{V: node} }

func TestTakeStepByStep(t *testing.T) {
	a := arena.Arena{At: 10, N: 3}
	for node := uint32(1); node <= 3; node++ {
		for _, tag := range []uint32{0, 1, 7, 1<<31 - 1, 1 << 31, top - 1, top} {
			for _, link := range []uint32{0, 1, 2, 3, 4, 1 << 31, top} {
				for _, above := range []uint32{0, 1, tag, top} {
					h := pair(tag, node)
					goes(t, a.Take(), taken(uint64(node)),
						step{load(10), h, true},
						step{load(10 + int(node)), pair(above, link), true},
						step{cas(10, h, pair(tag+1, link)), h, true})
				}
			}
		}
	}
}

// None is free, or a number comes up that is no node's: at once, or behind a Cas that was lost.
func TestTakeEndsWithoutANode(t *testing.T) {
	for _, n := range []int{1, 3, api.MaxNodes} {
		a := arena.Arena{At: 4, N: n}
		for _, tag := range []uint32{0, 1, 5, top} {
			codes := map[uint32]api.Code{0: api.NoMem, uint32(n) + 1: api.Broken, uint32(n) + 2: api.Broken, 1 << 31: api.Broken, top: api.Broken, 1<<16 + 1: api.Broken}
			for number, code := range codes {
				h := pair(tag, number)
				goes(t, a.Take(), api.Result{Code: code}, step{load(4), h, true})
				goes(t, a.Take(), api.Result{Code: code}, step{load(4), pair(9, 1), true}, step{load(5), 0, true}, step{cas(4, pair(9, 1), pair(10, 0)), h, false})
			}
			h := pair(tag, uint32(n))
			goes(t, a.Take(), taken(uint64(n)), step{load(4), h, true}, step{load(4 + n), 1, true}, step{cas(4, h, pair(tag+1, 1)), h, true})
		}
	}
}

// A Cas that was lost tells the head: it isn't loaded again, and its node's link is.
func TestTakeTriesAgain(t *testing.T) {
	a := arena.Arena{At: 0, N: 4}
	w := a.Take()
	goes(t, w, taken(3),
		step{load(0), pair(top, 2), true},
		step{load(2), pair(8, 4), true},
		step{cas(0, pair(top, 2), pair(0, 4)), pair(1, 4), false},
		step{load(4), 0, true},
		step{cas(0, pair(1, 4), pair(2, 0)), pair(3, 4), false},
		step{load(4), pair(0, 9), true},
		step{cas(0, pair(3, 4), pair(4, 9)), pair(77, 3), false},
		step{load(3), 1, true},
		step{cas(0, pair(77, 3), pair(78, 1)), pair(77, 3), true})
}

// What a Cas told that won is no matter, nor whether a Load won.
func TestTakeOfStrangeAnswers(t *testing.T) {
	a := arena.Arena{At: 0, N: 4}
	goes(t, a.Take(), taken(2), step{load(0), 2, false}, step{load(2), 3, false}, step{cas(0, 2, pair(1, 3)), pair(5, 4), true})
	goes(t, a.Take(), taken(2), step{load(0), 2, false}, step{load(2), 3, false}, step{cas(0, 2, pair(1, 3)), 0, true})
	goes(t, a.Take(), taken(2), step{load(0), 2, true}, step{load(2), 3, true}, step{cas(0, 2, pair(1, 3)), 2, false},
		step{load(2), 1, true}, step{cas(0, 2, pair(1, 1)), 2, true})
	goes(t, a.Take(), api.Result{Code: api.NoMem}, step{load(0), 0, false})
	goes(t, a.Take(), api.Result{Code: api.Broken}, step{load(0), all, false})
}

func TestPutStepByStep(t *testing.T) {
	a := arena.Arena{At: 10, N: 3}
	for i := 1; i <= 3; i++ {
		for _, tag := range []uint32{0, 1, 7, 1<<31 - 1, 1 << 31, top - 1, top} {
			// What the head's number is, it is laid behind the node, also where it is no node's.
			for _, first := range []uint32{0, 1, 2, 3, 4, 1 << 31, top} {
				h := pair(tag, first)
				goes(t, a.Put(i), api.Result{},
					step{load(10), h, true},
					step{store(10+i, uint64(first)), 99, true},
					step{cas(10, h, pair(tag+1, uint32(i))), h, true})
			}
		}
	}
}

// A Cas that was lost tells the head: it isn't loaded again, but laid behind the node anew.
func TestPutTriesAgain(t *testing.T) {
	a := arena.Arena{At: 1, N: 4}
	goes(t, a.Put(4), api.Result{},
		step{load(1), pair(top, 2), true},
		step{store(5, 2), pair(1, 1), true},
		step{cas(1, pair(top, 2), pair(0, 4)), pair(0, 0), false},
		step{store(5, 0), 2, true},
		step{cas(1, 0, pair(1, 4)), pair(6, top), false},
		step{store(5, top), 0, true},
		step{cas(1, pair(6, top), pair(7, 4)), pair(6, top), false},
		step{store(5, top), top, true},
		step{cas(1, pair(6, top), pair(7, 4)), pair(8, 1), true})
}

func TestPutOfStrangeAnswers(t *testing.T) {
	a := arena.Arena{At: 0, N: 4}
	goes(t, a.Put(2), api.Result{}, step{load(0), 3, false}, step{store(2, 3), all, false}, step{cas(0, 3, pair(1, 2)), all, true})
	goes(t, a.Put(2), api.Result{}, step{load(0), 2, false}, step{store(2, 2), 0, false}, step{cas(0, 2, pair(1, 2)), 0, true})
}

// Only a node can be put back.
func TestPutOfNoNode(t *testing.T) {
	for _, n := range []int{1, 3, api.MaxNodes} {
		a := arena.Arena{At: 2, N: n}
		for _, i := range append(ends(), n, n+1, n+2) {
			w := a.Put(i)
			if i < 1 || i > n {
				isEnded(t, w, api.Result{Code: api.Arg})
				continue
			}
			goes(t, w, api.Result{}, step{load(2), 0, true}, step{store(2+i, 0), 0, true}, step{cas(2, 0, pair(1, uint32(i))), 0, true})
		}
	}
}

func TestWalksOfWrongArenas(t *testing.T) {
	for _, a := range wrong() {
		isEnded(t, a.Take(), api.Result{Code: api.Arg})
		for _, i := range append(ends(), a.N) {
			isEnded(t, a.Put(i), api.Result{Code: api.Arg})
		}
	}
}

// Of the greatest arena there is, too, the last cell is the last node's link.
func TestWalksOfTheGreatest(t *testing.T) {
	a := arena.Arena{At: 61439, N: 4096}
	goes(t, a.Take(), taken(4096), step{load(61439), pair(3, 4096), true}, step{load(65535), 5, true}, step{cas(61439, pair(3, 4096), pair(4, 5)), pair(3, 4096), true})
	goes(t, a.Put(4096), api.Result{}, step{load(61439), pair(3, 4), true}, step{store(65535, 4), 5, true}, step{cas(61439, pair(3, 4), pair(4, 4096)), pair(3, 4), true})
}

// R1: answers without end; a walk goes on, and each one ends.
func TestAnswersWithoutEnd(t *testing.T) {
	a := arena.Arena{At: 0, N: 2}
	for _, w := range []*walk.Walk{a.Take(), a.Put(2)} {
		for i := range 30000 {
			w.Give(pair(uint32(i), 1), false)
		}
		if _, ok := w.Result(); ok {
			t.Error("it never won, and has ended")
		}
		w.Break(api.Abort)
		isEnded(t, w, api.Result{Code: api.Abort})
	}
}

// R6: what is kept is kept by each walk for itself.
func TestWalksSideBySide(t *testing.T) {
	a, b := arena.Arena{At: 0, N: 2}, arena.Arena{At: 7, N: 5}
	v, w, p, q := a.Take(), b.Take(), a.Put(2), b.Put(4)
	for _, x := range []*walk.Walk{v, w, p, q} {
		x.Give(pair(4, 1), true)
	}
	w.Give(3, true)
	v.Give(2, true)
	goes(t, p, api.Result{}, step{store(2, 1), 0, true}, step{cas(0, pair(4, 1), pair(5, 2)), 0, true})
	goes(t, w, taken(1), step{cas(7, pair(4, 1), pair(5, 3)), 0, true})
	goes(t, q, api.Result{}, step{store(11, 1), 0, true}, step{cas(7, pair(4, 1), pair(5, 4)), 0, true})
	goes(t, v, taken(1), step{cas(0, pair(4, 1), pair(5, 2)), 0, true})
}

// A walk goes into them, and wants and ends as they do.
func TestGoneInto(t *testing.T) {
	a := arena.Arena{At: 0, N: 2}
	w := walk.New(func(w *walk.Walk) {
		w.Into(a.Take(), func(r api.Result) {
			w.Into(a.Put(int(r.V)), func(p api.Result) { w.End(api.Result{Code: p.Code, V: r.V + 40}) })
		})
	})
	goes(t, w, api.Result{V: 42}, step{load(0), 2, true}, step{load(2), 1, true}, step{cas(0, 2, pair(1, 1)), 2, true},
		step{load(0), pair(1, 1), true}, step{store(2, 1), 1, true}, step{cas(0, pair(1, 1), pair(2, 2)), pair(1, 1), true})
}

// P6.3

func TestFree(t *testing.T) {
	a := arena.Arena{At: 2, N: 4}
	for _, c := range []struct {
		cells []uint64
		free  []int
		e     api.Code
	}{
		{[]uint64{0, 1, 2, 3, 4}, nil, api.Fine},
		{[]uint64{pair(7, 0), 1, 2, 3, 4}, nil, api.Fine},
		{[]uint64{1, 0, 2, 3, 4}, []int{1}, api.Fine},
		{[]uint64{4, 0, 0, 0, 0}, []int{4}, api.Fine},
		{[]uint64{1, 2, 3, 4, 0}, []int{1, 2, 3, 4}, api.Fine},
		{[]uint64{3, 0, 1, 4, 2}, []int{3, 4, 2, 1}, api.Fine},
		{[]uint64{pair(top, 3), pair(9, 0), 7, pair(1, 1), all}, []int{3, 1}, api.Fine},
		{[]uint64{1, 2, 1, 0, 0}, nil, api.Broken},
		{[]uint64{1, 1, 0, 0, 0}, nil, api.Broken},
		{[]uint64{4, 2, 3, 4, 1}, nil, api.Broken},
		{[]uint64{4, 2, 3, 1, pair(1, 4)}, nil, api.Broken},
		{[]uint64{1, 2, 3, 4, 1}, nil, api.Broken},
		{[]uint64{1, 2, 3, 4, 4}, nil, api.Broken},
		{[]uint64{5, 0, 0, 0, 0}, nil, api.Broken},
		{[]uint64{top, 0, 0, 0, 0}, nil, api.Broken},
		{[]uint64{1 << 31, 0, 0, 0, 0}, nil, api.Broken},
		{[]uint64{1, 2, 5, 0, 0}, nil, api.Broken},
		{[]uint64{1, 2, 3, 4, 5}, nil, api.Broken},
		{[]uint64{1, 2, 3, 4, 6}, nil, api.Broken},
		{[]uint64{1, all, 3, 4, 6}, nil, api.Broken},
		{[]uint64{2, 0, 1 << 31, 0, 0}, nil, api.Broken},
	} {
		want := slices.Concat([]uint64{1, 1}, c.cells, []uint64{1})
		m := memory(t, want...)
		l, e := a.Free(m)
		if e != c.e || !slices.Equal(l, c.free) {
			t.Errorf("%v: free are %v, %d, not %v, %d", c.cells, l, e, c.free, c.e)
		}
		isCells(t, m, want...)
	}
}

// byWords tells what is free by the chapter's words: the head's number, then its link, and so on.
func byWords(l []uint64) ([]int, api.Code) {
	var free []int
	for u := l[0]; ; {
		i := int(u % (1 << 32))
		if i == 0 {
			return free, api.Fine
		}
		if i >= len(l) || slices.Contains(free, i) {
			return nil, api.Broken
		}
		free = append(free, i)
		u = l[i]
	}
}

// All that three nodes' cells can be, with and without something above the numbers.
func TestFreeOfAllCells(t *testing.T) {
	a := arena.Arena{At: 0, N: 3}
	m := filled(t, 4, 0)
	fine := 0
	for i := range 5 * 5 * 5 * 5 {
		for _, above := range []uint64{0, 5 << 32} {
			l := []uint64{uint64(i % 5), uint64(i / 5 % 5), uint64(i/25%5) + above, uint64(i/125) + above}
			m.Fill(l)
			want, code := byWords(l)
			got, e := a.Free(m)
			if e != code || !slices.Equal(got, want) {
				t.Errorf("%v: free are %v, %d, not %v, %d", l, got, e, want, code)
			}
			if e == api.Fine {
				fine++
			}
		}
	}
	// Chains without a number twice: of none, one, two and three nodes.
	if want := 2 * (125 + 3*25 + 6*5 + 6); fine != want {
		t.Error(fine, want)
	}
}

func TestFreeOfTheGreatest(t *testing.T) {
	const n = api.MaxNodes
	a := arena.Arena{At: api.MaxCells - n - 1, N: n}
	m := filled(t, api.MaxCells, 0)
	told(t, a.Init(m, 1), api.Fine)
	last := api.MaxCells - 1
	m.Do(store(last, 1))
	if l, e := a.Free(m); e != api.Broken || len(l) != 0 {
		t.Error(len(l), e)
	}
	m.Do(store(last, n+1))
	if l, e := a.Free(m); e != api.Broken || len(l) != 0 {
		t.Error(len(l), e)
	}
	m.Do(store(last, pair(5, 0)))
	isFree(t, a, m, numbers(1, n)...)
	// Falling: each link leads to the node ahead of it.
	m.Do(store(a.At, n))
	for i := 1; i <= n; i++ {
		m.Do(store(a.At+i, uint64(i-1)))
	}
	want := numbers(1, n)
	slices.Reverse(want)
	isFree(t, a, m, want...)
}

// Nil ahead of Arg, Arg ahead of Place, Place ahead of Broken.
func TestFreeRefuses(t *testing.T) {
	for _, a := range append(wrong(), arena.Arena{At: 0, N: 1}) {
		if l, e := a.Free(nil); e != api.Nil || len(l) != 0 {
			t.Errorf("%+v: %v, %d", a, l, e)
		}
	}
	m := filled(t, 3, all)
	for _, a := range wrong() {
		if l, e := a.Free(m); e != api.Arg || len(l) != 0 {
			t.Errorf("%+v: %v, %d", a, l, e)
		}
	}
	for _, a := range []arena.Arena{{0, 3}, {1, 2}, {2, 1}, {3, 1}, {0, api.MaxNodes}, {61439, api.MaxNodes}} {
		if l, e := a.Free(m); e != api.Place || len(l) != 0 {
			t.Errorf("%+v: %v, %d", a, l, e)
		}
	}
	for _, a := range []arena.Arena{{0, 2}, {1, 1}, {0, 1}} {
		if l, e := a.Free(m); e != api.Broken || len(l) != 0 {
			t.Errorf("%+v: %v, %d", a, l, e)
		}
	}
	isCells(t, m, all, all, all)
}

// R4: each time it is asked, another list is told.
func TestFreeIsTheCallers(t *testing.T) {
	a := arena.Arena{At: 0, N: 3}
	m := filled(t, 4, 0)
	told(t, a.Init(m, 1), api.Fine)
	l, _ := a.Free(m)
	l[0], l[2] = 50, 60
	_ = append(l[:1], 70)
	isFree(t, a, m, 1, 2, 3)
	isCells(t, m, 1, 2, 3, 0)
}
