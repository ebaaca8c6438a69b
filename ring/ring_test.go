package ring_test

import (
	"math"
	"slices"
	"testing"

	"coachyard/api"
	"coachyard/cells"
	"coachyard/loom"
	"coachyard/ring"
	"coachyard/walk"
)

const (
	round = 1 << 32 // where counts go round
	all   = round - 1
	turn  = 1 << 31 // where counts that are ahead begin to look like those behind
	junk  = 7 << 32 // what a tail may have above its lo
)

// ends are numbers at and beside the ends of sizes, cells and int.
func ends() []int {
	return []int{math.MinInt, math.MinInt + 1, -1 << 32, -api.MaxCells, -256, -4, -2, -1, 0, 1, 2, 3, 4, 5, 6, 7, 8, 12, 16, 31, 32, 33, 63, 64, 65, 127, 128, 129,
		254, 255, 256, 257, 258, 384, 511, 512, 1024, api.MaxCells - 513, api.MaxCells - 512, api.MaxCells - 259, api.MaxCells - 258, api.MaxCells - 257, api.MaxCells - 256,
		api.MaxCells - 10, api.MaxCells - 6, api.MaxCells - 5, api.MaxCells - 4, api.MaxCells - 3, api.MaxCells - 2, api.MaxCells - 1, api.MaxCells, api.MaxCells + 1,
		1 << 32, 1<<32 + 2, 1 << 62, math.MaxInt - api.MaxCells, math.MaxInt - 257, math.MaxInt - 3, math.MaxInt - 2, math.MaxInt - 1, math.MaxInt}
}

// counts are numbers below 2^32 at and beside the places where they go round, or look like falling ones.
func counts() []uint64 {
	var l []uint64
	for _, middle := range []uint64{0, 256, turn, turn + 256} {
		for _, by := range []uint64{0, 1, 2, 3, 4, 5, 255, 256, 257} {
			l = append(l, (middle+by)%round, (middle+round-by)%round)
		}
	}
	slices.Sort(l)
	return slices.Compact(l)
}

func sizes() []int {
	return []int{2, 4, 8, 16, 32, 64, 128, 256}
}

// wrong are rings that aren't right.
func wrong() []ring.Row {
	return []ring.Row{{}, {0, 1}, {0, 3}, {0, 5}, {0, 6}, {0, 12}, {0, 255}, {0, 257}, {0, 384}, {0, 512}, {0, 1 << 32}, {0, 1 << 62}, {0, -1}, {0, -2}, {0, -4}, {0, math.MinInt}, {0, math.MaxInt},
		{-1, 2}, {-1, 4}, {-4, 4}, {-6, 4}, {math.MinInt, 4}, {math.MinInt, math.MinInt}, {math.MaxInt, math.MaxInt}, {math.MaxInt, 4}, {math.MaxInt - 4, 4}, {math.MaxInt - 5, 4},
		{65533, 2}, {65531, 4}, {65532, 4}, {65279, 256}, {65280, 256}, {65535, 2}, {65536, 4}, {1 << 32, 4}}
}

// The chapter's reckoning, in numbers that are wide enough not to go round by themselves.

func pair(hi, lo uint64) uint64 {
	return hi*round + lo
}

func hiOf(u uint64) uint64 {
	return u / round
}

func loOf(u uint64) uint64 {
	return u % round
}

func plus(n uint64, by int) uint64 {
	return (n + uint64(by)) % round
}

func aheadOf(a, b uint64) int {
	d := int(a) - int(b)
	if d >= turn {
		d -= round
	}
	if d < -turn {
		d += round
	}
	return d
}

func slot(r ring.Row, n uint64) int {
	return r.At + 2 + int(n)%r.Size
}

// memory is one of just these cells.
func memory(t *testing.T, l ...uint64) *cells.Mem {
	t.Helper()
	m, e := cells.New(len(l))
	if e != api.Fine || m.Fill(l) != api.Fine {
		t.Fatal(e)
	}
	return m
}

// filled is a memory of n cells, all of them v.
func filled(t *testing.T, n int, v uint64) *cells.Mem {
	t.Helper()
	return memory(t, slices.Repeat([]uint64{v}, n)...)
}

func isCells(t *testing.T, m *cells.Mem, want ...uint64) {
	t.Helper()
	if l := m.All(); !slices.Equal(l, want) {
		t.Fatalf("the cells are %#x, not %#x", l, want)
	}
}

func told(t *testing.T, got, want api.Code) {
	t.Helper()
	if got != want {
		t.Fatalf("told %d, not %d", got, want)
	}
}

func isIn(t *testing.T, r ring.Row, m *cells.Mem, want ...uint64) {
	t.Helper()
	if l, e := r.All(m); e != api.Fine || !slices.Equal(l, want) {
		t.Fatalf("in it are %d, %d, not %d", l, e, want)
	}
}

func load(cell int) api.Access {
	return api.Access{Kind: api.Load, Cell: cell}
}

func store(cell int, v uint64) api.Access {
	return api.Access{Kind: api.Store, Cell: cell, A: v}
}

func cas(cell int, from, to uint64) api.Access {
	return api.Access{Kind: api.Cas, Cell: cell, A: from, B: to}
}

// drawn tells numbers that look like drawn ones, the same ones each time.
func drawn(seed uint64) func(n int) int {
	return func(n int) int {
		seed = seed*6364136223846793005 + 1442695040888963407
		return int(seed >> 33 % uint64(n))
	}
}

// P8.1

func TestRight(t *testing.T) {
	for _, r := range []ring.Row{{0, 2}, {0, 4}, {7, 8}, {1, 16}, {0, 32}, {0, 64}, {3, 128}, {0, 256}, {65532, 2}, {65530, 4}, {65529, 4}, {65526, 8}, {65278, 256}, {65277, 256}} {
		if !r.Right() {
			t.Errorf("%+v isn't right", r)
		}
	}
	for _, r := range wrong() {
		if r.Right() {
			t.Errorf("%+v is right", r)
		}
	}
}

// By its words, in sums that can't go round: numbers outside of the limits are held against them one by one first.
func TestRightAtAllEnds(t *testing.T) {
	right := 0
	for _, at := range append(ends(), 65278, 65279, 65406, 65407, 65470, 65502, 65518, 65519, 65526, 65527, 65530, 65531, 65532, 65533) {
		for _, size := range ends() {
			want := false
			if at >= 0 && at < 65536 && slices.Contains(sizes(), size) {
				want = at+size+1 < 65536
			}
			if want {
				right++
			}
			if r := (ring.Row{At: at, Size: size}); r.Right() != want {
				t.Errorf("%+v is right: %t", r, r.Right())
			}
		}
	}
	if right == 0 {
		t.Error("none was right")
	}
	for size := -1; size < 600; size++ {
		if (ring.Row{Size: size}).Right() != slices.Contains(sizes(), size) {
			t.Errorf("of the size %d", size)
		}
	}
}

// step is an access that a walk must want, what it must hold then, and what is given to it.
type step struct {
	want api.Access
	v    uint64
	won  bool
	held []uint64
}

// follow gives w what the steps tell, and looks that it wants and holds just these, and doesn't end ahead of them.
func follow(t *testing.T, w *walk.Walk, steps ...step) {
	t.Helper()
	for i, s := range steps {
		if a, ok := w.Want(); !ok || a != s.want {
			t.Fatalf("step %d: it wants %+v, %t, not %+v", i, a, ok, s.want)
		}
		if r, ok := w.Result(); ok || r.Code != 0 || r.V != 0 || len(r.L) != 0 {
			t.Fatalf("step %d: it has ended with %+v", i, r)
		}
		holds(t, w, s.held...)
		w.Give(s.v, s.won)
	}
}

// goes looks also that it ends behind them.
func goes(t *testing.T, w *walk.Walk, end api.Result, steps ...step) {
	t.Helper()
	follow(t, w, steps...)
	isEnded(t, w, end)
	// What is given then changes nothing.
	w.Give(3, true)
	w.Give(0, false)
	isEnded(t, w, end)
}

func isEnded(t *testing.T, w *walk.Walk, end api.Result) {
	t.Helper()
	if r, ok := w.Result(); !ok || r.Code != end.Code || r.V != end.V || !slices.Equal(r.L, end.L) {
		t.Fatalf("it ended with %+v, %t, not with %+v", r, ok, end)
	}
	if a, ok := w.Want(); ok || a != (api.Access{}) {
		t.Fatalf("it has ended, and wants %+v", a)
	}
	holds(t, w)
}

func holds(t *testing.T, w *walk.Walk, want ...uint64) {
	t.Helper()
	if l := w.Held(); !slices.Equal(l, want) {
		t.Fatalf("it holds %d, not %d", l, want)
	}
}

// some is a list, short to write.
func some(l ...uint64) []uint64 {
	return l
}

// Written out, for those who don't trust the words' reckoning.
func TestPushWrittenOut(t *testing.T) {
	r := ring.Row{At: 10, Size: 4}
	held := some(50)
	goes(t, r.Push(50), api.Result{}, step{load(10), 0, true, held}, step{load(11), 0, true, held}, step{store(12, 50), 9, true, held}, step{store(11, 1), 0, true, held})
	goes(t, r.Push(50), api.Result{}, step{load(10), 2<<32 + 3, true, held}, step{load(11), 5, true, held}, step{store(13, 50), 9, true, held}, step{store(11, 6), 5, true, held})
	// Somebody steals, and there is no room.
	goes(t, r.Push(50), api.Result{Code: api.Busy}, step{load(10), 2<<32 + 3, true, held}, step{load(11), 6, true, held})
	goes(t, r.Push(50), api.Result{Code: api.Busy}, step{load(10), 2<<32 + 6, true, held}, step{load(11), 7, true, held})
	// Nobody steals, and there is no room.
	goes(t, r.Push(50), api.Result{Code: api.Full, L: some(61, 62)}, step{load(10), 2<<32 + 2, true, held}, step{load(11), 6, true, held},
		step{cas(10, 2<<32+2, 4<<32+4), 2<<32 + 2, true, held}, step{load(14), 61, true, held}, step{load(15), 62, true, some(50, 61)})
	// Another one was faster, and left room; or none.
	goes(t, r.Push(50), api.Result{}, step{load(10), 2<<32 + 2, true, held}, step{load(11), 6, true, held},
		step{cas(10, 2<<32+2, 4<<32+4), 3<<32 + 3, false, held}, step{load(11), 6, true, held}, step{store(14, 50), 9, true, held}, step{store(11, 7), 6, true, held})
	goes(t, r.Push(50), api.Result{Code: api.Busy}, step{load(10), 2<<32 + 2, true, held}, step{load(11), 6, true, held},
		step{cas(10, 2<<32+2, 4<<32+4), 2<<32 + 3, false, held}, step{load(11), 6, true, held})
	goes(t, r.Push(50), api.Result{Code: api.Full, L: some(61, 62)}, step{load(10), 2<<32 + 2, true, held}, step{load(11), 7, true, held},
		step{cas(10, 2<<32+2, 4<<32+4), 3<<32 + 3, false, held}, step{load(11), 7, true, held},
		step{cas(10, 3<<32+3, 5<<32+5), 3<<32 + 3, true, held}, step{load(15), 61, true, held}, step{load(12), 62, true, some(50, 61)})
	// Where counts go round; of a tail its lo alone counts.
	goes(t, r.Push(50), api.Result{}, step{load(10), all<<32 + 1, true, held}, step{load(11), 2, true, held}, step{store(14, 50), 9, true, held}, step{store(11, 3), 0, true, held})
	goes(t, r.Push(50), api.Result{Code: api.Busy}, step{load(10), all<<32 + 1, true, held}, step{load(11), 3, true, held})
	goes(t, r.Push(50), api.Result{}, step{load(10), all<<32 + all, true, held}, step{load(11), all, true, held}, step{store(15, 50), 9, true, held}, step{store(11, 0), 0, true, held})
	goes(t, r.Push(50), api.Result{Code: api.Full, L: some(61, 62)}, step{load(10), all<<32 + all, true, held}, step{load(11), 3, true, held},
		step{cas(10, all<<32+all, 1<<32+1), 0, true, held}, step{load(15), 61, true, held}, step{load(12), 62, true, some(50, 61)})
	goes(t, r.Push(50), api.Result{}, step{load(10), 0, true, held}, step{load(11), 9<<32 + 2, true, held}, step{store(14, 50), 9, true, held}, step{store(11, 3), 0, true, held})
	// Behind what is being stolen is no room less, however far.
	goes(t, r.Push(50), api.Result{}, step{load(10), 3<<32 + 3, true, held}, step{load(11), 2, true, held}, step{store(14, 50), 9, true, held}, step{store(11, 3), 0, true, held})
	goes(t, r.Push(50), api.Result{}, step{load(10), 0, true, held}, step{load(11), turn, true, held}, step{store(12, 50), 9, true, held}, step{store(11, turn+1), 0, true, held})
	goes(t, r.Push(50), api.Result{Code: api.Busy}, step{load(10), 1, true, held}, step{load(11), turn - 1, true, held})
}

func TestPopWrittenOut(t *testing.T) {
	r := ring.Row{At: 10, Size: 4}
	goes(t, r.Pop(), api.Result{Code: api.Empty}, step{load(10), 0, true, nil}, step{load(11), 0, true, nil})
	goes(t, r.Pop(), api.Result{Code: api.Empty}, step{load(10), 3<<32 + 3, true, nil}, step{load(11), 2, true, nil})
	goes(t, r.Pop(), api.Result{Code: api.Empty}, step{load(10), 0, true, nil}, step{load(11), turn, true, nil})
	goes(t, r.Pop(), api.Result{V: 60}, step{load(10), 5<<32 + 5, true, nil}, step{load(11), 6, true, nil}, step{cas(10, 5<<32+5, 6<<32+6), 0, true, nil}, step{load(13), 60, true, nil})
	// Behind what is being stolen.
	goes(t, r.Pop(), api.Result{V: 60}, step{load(10), 3<<32 + 5, true, nil}, step{load(11), 6, true, nil}, step{cas(10, 3<<32+5, 3<<32+6), 0, true, nil}, step{load(13), 60, true, nil})
	goes(t, r.Pop(), api.Result{Code: api.Empty}, step{load(10), 3<<32 + 5, true, nil}, step{load(11), 5, true, nil})
	// Another one was faster.
	goes(t, r.Pop(), api.Result{V: 60}, step{load(10), 5<<32 + 5, true, nil}, step{load(11), 8, true, nil}, step{cas(10, 5<<32+5, 6<<32+6), 5<<32 + 7, false, nil},
		step{load(11), 8, true, nil}, step{cas(10, 5<<32+7, 5<<32+8), 0, true, nil}, step{load(15), 60, true, nil})
	goes(t, r.Pop(), api.Result{Code: api.Empty}, step{load(10), 5<<32 + 5, true, nil}, step{load(11), 6, true, nil}, step{cas(10, 5<<32+5, 6<<32+6), 6<<32 + 6, false, nil}, step{load(11), 6, true, nil})
	// Where counts go round; of a tail its lo alone counts.
	goes(t, r.Pop(), api.Result{V: 60}, step{load(10), all<<32 + all, true, nil}, step{load(11), 0, true, nil}, step{cas(10, all<<32+all, 0), 0, true, nil}, step{load(15), 60, true, nil})
	goes(t, r.Pop(), api.Result{V: 60}, step{load(10), (all-1)<<32 + all, true, nil}, step{load(11), 2, true, nil}, step{cas(10, (all-1)<<32+all, (all-1)<<32), 0, true, nil}, step{load(15), 60, true, nil})
	goes(t, r.Pop(), api.Result{Code: api.Empty}, step{load(10), 0, true, nil}, step{load(11), 9 << 32, true, nil})
	// As far ahead as can be.
	goes(t, r.Pop(), api.Result{V: 60}, step{load(10), 1<<32 + 1, true, nil}, step{load(11), turn, true, nil}, step{cas(10, 1<<32+1, 2<<32+2), 0, true, nil}, step{load(13), 60, true, nil})
}

func TestStealWrittenOut(t *testing.T) {
	r, own := ring.Row{At: 10, Size: 4}, ring.Row{At: 20, Size: 4}
	// The target is too full.
	goes(t, r.Steal(own), api.Result{Code: api.Full}, step{load(21), 7, true, nil}, step{load(20), 4<<32 + 6, true, nil})
	goes(t, r.Steal(own), api.Result{Code: api.Full}, step{load(21), 1, true, nil}, step{load(20), (all-1)<<32 + 1, true, nil})
	room := []step{{load(21), 7, true, nil}, {load(20), 5<<32 + 7, true, nil}}
	with := func(more ...step) []step { return append(slices.Clone(room), more...) }
	goes(t, r.Steal(own), api.Result{Code: api.Empty}, with(step{load(10), 0, true, nil}, step{load(11), 0, true, nil})...)
	goes(t, r.Steal(own), api.Result{Code: api.Empty}, with(step{load(10), 2<<32 + 2, true, nil}, step{load(11), 1, true, nil})...)
	goes(t, r.Steal(own), api.Result{Code: api.Busy}, with(step{load(10), 1<<32 + 2, true, nil}, step{load(11), 4, true, nil})...)
	// Busy comes ahead of all others.
	goes(t, r.Steal(own), api.Result{Code: api.Busy}, with(step{load(10), 1<<32 + 2, true, nil}, step{load(11), 2, true, nil})...)
	goes(t, r.Steal(own), api.Result{Code: api.Busy}, with(step{load(10), 1<<32 + 2, true, nil}, step{load(11), 7, true, nil})...)
	// One.
	goes(t, r.Steal(own), api.Result{V: 60}, with(step{load(10), 2<<32 + 2, true, nil}, step{load(11), 3, true, nil}, step{cas(10, 2<<32+2, 2<<32+3), 0, true, nil},
		step{load(14), 60, true, nil}, step{load(10), 2<<32 + 3, true, some(60)}, step{cas(10, 2<<32+3, 3<<32+3), 0, true, some(60)})...)
	// Two, of three or four.
	for _, tail := range []uint64{5, 6} {
		goes(t, r.Steal(own), api.Result{V: 61}, with(step{load(10), 2<<32 + 2, true, nil}, step{load(11), tail, true, nil}, step{cas(10, 2<<32+2, 2<<32+4), 0, true, nil},
			step{load(14), 60, true, nil}, step{store(25, 60), 9, true, some(60)}, step{load(15), 61, true, some(60)},
			step{load(10), 2<<32 + 4, true, some(60, 61)}, step{cas(10, 2<<32+4, 4<<32+4), 0, true, some(60, 61)}, step{store(21, 8), 7, true, some(60, 61)})...)
	}
	// The owner pops meanwhile, more than once.
	goes(t, r.Steal(own), api.Result{V: 60}, with(step{load(10), 2<<32 + 2, true, nil}, step{load(11), 4, true, nil}, step{cas(10, 2<<32+2, 2<<32+3), 0, true, nil},
		step{load(14), 60, true, nil}, step{load(10), 2<<32 + 4, true, some(60)}, step{cas(10, 2<<32+4, 4<<32+4), 2<<32 + 5, false, some(60)},
		step{cas(10, 2<<32+5, 5<<32+5), 2<<32 + 6, false, some(60)}, step{cas(10, 2<<32+6, 6<<32+6), 2<<32 + 6, true, some(60)})...)
	// Another one was faster.
	goes(t, r.Steal(own), api.Result{V: 60}, with(step{load(10), 2<<32 + 2, true, nil}, step{load(11), 3, true, nil}, step{cas(10, 2<<32+2, 2<<32+3), 3<<32 + 3, false, nil},
		step{load(11), 4, true, nil}, step{cas(10, 3<<32+3, 3<<32+4), 0, true, nil},
		step{load(15), 60, true, nil}, step{load(10), 3<<32 + 4, true, some(60)}, step{cas(10, 3<<32+4, 4<<32+4), 0, true, some(60)})...)
	// The tail is too far ahead of the head: both are looked at anew.
	goes(t, r.Steal(own), api.Result{Code: api.Empty}, with(step{load(10), 2<<32 + 2, true, nil}, step{load(11), 7, true, nil}, step{load(10), 0, true, nil}, step{load(11), turn - 1, true, nil},
		step{load(10), 3<<32 + 3, true, nil}, step{load(11), 3, true, nil})...)
	// Where counts go round, of both; of tails their lo alone counts.
	goes(t, r.Steal(own), api.Result{V: 61}, step{load(21), 5<<32 + all, true, nil}, step{load(20), (all-2)<<32 + 3, true, nil},
		step{load(10), all<<32 + all, true, nil}, step{load(11), 6<<32 + 3, true, nil}, step{cas(10, all<<32+all, all<<32+1), 0, true, nil},
		step{load(15), 60, true, nil}, step{store(25, 60), 9, true, some(60)}, step{load(12), 61, true, some(60)},
		step{load(10), all<<32 + 1, true, some(60, 61)}, step{cas(10, all<<32+1, 1<<32+1), 0, true, some(60, 61)}, step{store(21, 0), all, true, some(60, 61)})
	// A target that is behind has room.
	goes(t, r.Steal(own), api.Result{Code: api.Empty}, step{load(21), 7, true, nil}, step{load(20), 8 << 32, true, nil}, step{load(10), 0, true, nil}, step{load(11), 0, true, nil})
	goes(t, r.Steal(own), api.Result{Code: api.Empty}, step{load(21), turn, true, nil}, step{load(20), 0, true, nil}, step{load(10), 0, true, nil}, step{load(11), 0, true, nil})
}

// teller does the chapter's steps one by one, and writes down what is wanted, held and told at each.
type teller struct {
	tell  func(a api.Access) (uint64, bool)
	most  int // behind so many steps it is left
	steps []step
	held  []uint64
}

// left is thrown where a walk isn't gone to its end.
type left struct{}

func (o *teller) do(a api.Access) (uint64, bool) {
	if len(o.steps) == o.most {
		panic(left{})
	}
	v, won := o.tell(a)
	o.steps = append(o.steps, step{a, v, won, slices.Clone(o.held)})
	return v, won
}

func (o *teller) load(cell int) uint64 {
	v, _ := o.do(load(cell))
	return v
}

func (o *teller) loadSlot(r ring.Row, n uint64) uint64 {
	v := o.load(slot(r, n))
	o.held = append(o.held, v)
	return v
}

func (o *teller) push(r ring.Row, v uint64) api.Result {
	o.held = some(v)
	h := o.load(r.At)
	for {
		first, tail := loOf(h), loOf(o.load(r.At+1))
		if aheadOf(tail, hiOf(h)) < r.Size {
			o.do(store(slot(r, tail), v))
			o.do(store(r.At+1, plus(tail, 1)))
			return api.Result{}
		}
		if hiOf(h) != first {
			return api.Result{Code: api.Busy}
		}
		to := plus(first, r.Size/2)
		was, won := o.do(cas(r.At, h, pair(to, to)))
		if won {
			end := api.Result{Code: api.Full}
			for k := range r.Size / 2 {
				end.L = append(end.L, o.loadSlot(r, plus(first, k)))
			}
			return end
		}
		h = was
	}
}

func (o *teller) pop(r ring.Row) api.Result {
	h := o.load(r.At)
	for {
		s, first, tail := hiOf(h), loOf(h), loOf(o.load(r.At+1))
		if aheadOf(tail, first) < 1 {
			return api.Result{Code: api.Empty}
		}
		if s == first {
			s = plus(first, 1)
		}
		was, won := o.do(cas(r.At, h, pair(s, plus(first, 1))))
		if won {
			return api.Result{V: o.load(slot(r, first))}
		}
		h = was
	}
}

func (o *teller) steal(r, target ring.Row) api.Result {
	u := loOf(o.load(target.At + 1))
	if aheadOf(u, hiOf(o.load(target.At))) > r.Size/2 {
		return api.Result{Code: api.Full}
	}
	h := o.load(r.At)
	for {
		s, first, tail := hiOf(h), loOf(h), loOf(o.load(r.At+1))
		n := aheadOf(tail, first)
		if s != first {
			return api.Result{Code: api.Busy}
		}
		if n > r.Size {
			h = o.load(r.At)
			continue
		}
		n -= int(math.Floor(float64(n) / 2))
		if n < 1 {
			return api.Result{Code: api.Empty}
		}
		was, won := o.do(cas(r.At, h, pair(s, plus(first, n))))
		if won {
			return o.move(r, target, first, u, n)
		}
		h = was
	}
}

// move does the steps from the 6th one on.
func (o *teller) move(r, target ring.Row, first, u uint64, n int) api.Result {
	var v uint64
	for k := range n {
		v = o.loadSlot(r, plus(first, k))
		if k < n-1 {
			o.do(store(slot(target, plus(u, k)), v))
		}
	}
	h := o.load(r.At)
	for {
		was, won := o.do(cas(r.At, h, pair(loOf(h), loOf(h))))
		if won {
			break
		}
		h = was
	}
	if n > 1 {
		o.do(store(target.At+1, plus(u, n-1)))
	}
	return api.Result{V: v}
}

// reckon tells what comes of a walk that the words tell, all its steps, and whether it came to its end.
func reckon(most int, tell func(a api.Access) (uint64, bool), words func(o *teller) api.Result) (end api.Result, steps []step, over bool) {
	o := &teller{tell: tell, most: most}
	defer func() {
		steps = o.steps
		if x := recover(); x != nil {
			_ = x.(left)
		}
	}()
	return words(o), nil, true
}

// A trio is the three walks of a ring, by the words and as they are.
type trio struct {
	words func(o *teller) api.Result
	begin func() *walk.Walk
}

func trios(r, target ring.Row, v uint64) []trio {
	return []trio{
		{func(o *teller) api.Result { return o.push(r, v) }, func() *walk.Walk { return r.Push(v) }},
		{func(o *teller) api.Result { return o.pop(r) }, r.Pop},
		{func(o *teller) api.Result { return o.steal(r, target) }, func() *walk.Walk { return r.Steal(target) }},
	}
}

// tells tells heads and tails that stand near each other, most often, and anything of all other cells; a Cas is lost more or less often.
func tells(r, target ring.Row, near uint64, losses int, draw func(int) int) func(a api.Access) (uint64, bool) {
	return func(a api.Access) (uint64, bool) {
		won := draw(8) >= losses
		first := plus(near, draw(5))
		switch a.Cell {
		case r.At, target.At:
			s := first
			if draw(4) == 0 {
				s = plus(first, round-draw(r.Size+2))
			}
			return pair(s, first), won
		case r.At + 1, target.At + 1:
			by := []int{draw(r.Size + 6), draw(6), r.Size + draw(3), 1 << 16, turn}
			return plus(first, round-1+by[max(0, draw(40)-35)]) + uint64(draw(3))*junk, won
		}
		return uint64(draw(1<<30))<<34 | uint64(draw(1000)), won
	}
}

// Whatever is told, each walk does what the chapter's words say.
func TestStepByStep(t *testing.T) {
	kinds := map[[2]int]int{}
	for n, size := range sizes() {
		at := []int{0, 9, api.MaxCells - size - 2}[n%3]
		r, target := ring.Row{At: at, Size: size}, ring.Row{At: []int{3000, 9 + size + 2, 40}[n%3], Size: size}
		for i, near := range counts() {
			draw := drawn(uint64(n*1000 + i))
			for again := range 24 {
				for k, c := range trios(r, target, uint64(draw(1<<30))) {
					end, steps, over := reckon(700, tells(r, target, near, again%5, draw), c.words)
					if !over {
						t.Fatal("the words never end")
					}
					goes(t, c.begin(), end, steps...)
					kinds[[2]int{k, int(end.Code)}]++
				}
			}
		}
	}
	for _, k := range [][2]int{{0, 0}, {0, 4}, {0, 8}, {1, 0}, {1, 5}, {2, 0}, {2, 4}, {2, 5}, {2, 8}} {
		if kinds[k] < 50 {
			t.Errorf("the walk %d ended with %d only %d times", k[0], k[1], kinds[k])
		}
	}
	if len(kinds) != 9 {
		t.Error(kinds)
	}
}

// stands tells always the same heads and tails, and that the first Cas are lost, so many.
func stands(r, target ring.Row, head, tail uint64, losses int) func(a api.Access) (uint64, bool) {
	in := losses
	return func(a api.Access) (uint64, bool) {
		if a.Kind == api.Cas {
			losses--
		}
		switch a.Cell {
		case r.At, target.At:
			return head, losses < 0
		case r.At + 1:
			return tail, false
		case target.At + 1:
			return junk + plus(hiOf(head), in), false
		}
		return uint64(a.Cell), false
	}
}

// All heads and tails near each other, also where they can't be so, and a steal looks anew without end.
func TestStepByStepOfAllHeads(t *testing.T) {
	r, target := ring.Row{At: 3, Size: 4}, ring.Row{At: 9, Size: 4}
	endless := 0
	for _, near := range []uint64{0, 2, turn - 3, turn, round - 6, round - 3} {
		for i := range 12 * 12 * 12 {
			head, tail := pair(plus(near, i%12), plus(near, i/12%12)), junk+plus(near, i/144)
			for _, losses := range []int{0, 1, 3} {
				for _, c := range trios(r, target, 99) {
					end, steps, over := reckon(30, stands(r, target, head, tail, losses), c.words)
					if over {
						goes(t, c.begin(), end, steps...)
						continue
					}
					endless++
					w := c.begin()
					follow(t, w, steps...)
					if _, ok := w.Want(); !ok {
						t.Fatal("it wants nothing")
					}
				}
			}
		}
	}
	if endless == 0 {
		t.Error("all have ended")
	}
}

// A task may be any word, and none that is met elsewhere is taken for another thing.
func TestTasksOfAllKinds(t *testing.T) {
	r, target := ring.Row{At: 3, Size: 4}, ring.Row{At: 9, Size: 4}
	for _, v := range append(counts(), math.MaxUint64, math.MaxUint64-1, 1<<63, 1<<63-1, 1<<32, 1<<33) {
		for in := range uint64(5) {
			tell := func(a api.Access) (uint64, bool) {
				switch a.Cell {
				case r.At, target.At:
					return 0, true
				case r.At + 1:
					return in, true
				case target.At + 1:
					return 1, true
				}
				return v, true
			}
			for _, c := range trios(r, target, v) {
				end, steps, _ := reckon(99, tell, c.words)
				goes(t, c.begin(), end, steps...)
			}
		}
	}
}

func TestWalksOfWrongRings(t *testing.T) {
	right := ring.Row{At: 500, Size: 4}
	for _, r := range wrong() {
		for _, w := range []*walk.Walk{r.Push(5), r.Pop(), r.Steal(right), right.Steal(r), r.Steal(r), r.Steal(ring.Row{At: 500, Size: r.Size}), ring.Row{At: 500, Size: 256}.Steal(r)} {
			goes(t, w, api.Result{Code: api.Arg})
		}
	}
}

// Another size, or a cell of both: it isn't another ring.
func TestStealOfWrongTargets(t *testing.T) {
	for _, size := range sizes() {
		for _, other := range sizes() {
			for at := 0; at < 1000; at += 1 + at/300*31 {
				r, target := ring.Row{At: 400, Size: size}, ring.Row{At: at, Size: other}
				// The cells of the one are those from At to At + Size + 1.
				apart := at+other+1 < 400 || 400+size+1 < at
				w := r.Steal(target)
				if _, ok := w.Result(); ok == (size == other && apart) {
					t.Fatalf("%+v into %+v: it has ended: %t", r, target, ok)
				}
				if size == other && apart {
					follow(t, w, step{load(at + 1), 0, true, nil}, step{load(at), 0, true, nil}, step{load(400), 0, true, nil}, step{load(401), 0, true, nil})
					isEnded(t, w, api.Result{Code: api.Empty})
				} else {
					goes(t, w, api.Result{Code: api.Arg})
				}
			}
		}
	}
	for _, at := range ends() {
		w := ring.Row{At: 0, Size: 4}.Steal(ring.Row{At: at, Size: 4})
		if _, ok := w.Result(); ok == (at >= 6 && at <= api.MaxCells-6) {
			t.Errorf("a target at %d: %t", at, ok)
		}
	}
}

// broken breaks a walk behind each of its steps, and looks that it has ended just so, and holds nothing then.
func broken(t *testing.T, begin func() *walk.Walk, steps []step) {
	t.Helper()
	for n := range len(steps) {
		w := begin()
		for _, s := range steps[:n] {
			w.Give(s.v, s.won)
		}
		holds(t, w, steps[n].held...)
		w.Break(api.Lost)
		goes(t, w, api.Result{Code: api.Lost})
	}
}

// They hold tasks till they have ended, by whomever.
func TestBrokenFromOutside(t *testing.T) {
	r, target := ring.Row{At: 3, Size: 8}, ring.Row{At: 20, Size: 8}
	for in := range uint64(9) {
		tell := func(a api.Access) (uint64, bool) {
			if a.Cell == r.At+1 {
				return in, true
			}
			return uint64(a.Cell / 20), true
		}
		for _, c := range trios(r, target, 55) {
			_, steps, _ := reckon(99, tell, c.words)
			broken(t, c.begin, steps)
		}
	}
}

// A loom breaks those that want a cell that isn't there.
func TestWithoutCells(t *testing.T) {
	r, target := ring.Row{At: 8, Size: 4}, ring.Row{At: 1, Size: 4}
	for n := 1; n <= 10; n++ {
		m := filled(t, n, 0)
		l, _ := loom.New(m, 3)
		for who, c := range []struct {
			w    *walk.Walk
			most int // so many cells are too few for it
			end  api.Result
		}{{r.Push(5), 10, api.Result{}}, {r.Pop(), 9, api.Result{Code: api.Empty}}, {r.Steal(target), 9, api.Result{Code: api.Empty}}} {
			m.Fill(make([]uint64, n))
			told(t, l.Start(who, c.w), api.Fine)
			l.Alone(who, 20)
			if n <= c.most {
				c.end = api.Result{Code: api.Broken}
			}
			isEnded(t, c.w, c.end)
		}
	}
}

// R6: what is kept is kept by each walk for itself.
func TestSideBySide(t *testing.T) {
	type under struct {
		w     *walk.Walk
		end   api.Result
		steps []step
	}
	var l []under
	for i, size := range []int{4, 2, 8, 4} {
		r, target := ring.Row{At: 0, Size: size}, ring.Row{At: 20, Size: size}
		for in := range 2 {
			draw := drawn(uint64(i))
			tell := func(a api.Access) (uint64, bool) {
				switch a.Cell {
				case r.At, target.At:
					return pair(5, 5), draw(2) == 0
				case r.At + 1:
					return uint64(5 + size - in), true
				case target.At + 1:
					return 6, true
				}
				return uint64(draw(100)), true
			}
			for _, c := range trios(r, target, uint64(i*10)) {
				end, steps, _ := reckon(99, tell, c.words)
				l = append(l, under{c.begin(), end, steps})
			}
		}
	}
	for i := range 99 {
		for _, u := range l {
			if i >= len(u.steps) {
				isEnded(t, u.w, u.end)
				continue
			}
			follow(t, u.w, u.steps[i])
		}
	}
}

// A walk goes into them, wants and ends as they do, and holds what they hold.
func TestGoneInto(t *testing.T) {
	r, target := ring.Row{At: 0, Size: 2}, ring.Row{At: 4, Size: 2}
	w := walk.New(func(w *walk.Walk) {
		w.Hold(some(1))
		w.Into(r.Push(2), func(p api.Result) {
			w.Into(r.Pop(), func(q api.Result) {
				w.Into(r.Steal(target), func(s api.Result) { w.Hold(nil); w.End(api.Result{Code: p.Code, V: q.V*10 + s.V, L: p.L}) })
			})
		})
	})
	goes(t, w, api.Result{Code: api.Full, V: 89, L: some(7)},
		step{load(0), 3<<32 + 3, true, some(1, 2)}, step{load(1), 5, true, some(1, 2)}, step{cas(0, 3<<32+3, 4<<32+4), 0, true, some(1, 2)}, step{load(3), 7, true, some(1, 2)},
		step{load(0), 4<<32 + 4, true, some(1)}, step{load(1), 6, true, some(1)}, step{cas(0, 4<<32+4, 5<<32+5), 0, true, some(1)}, step{load(2), 8, true, some(1)},
		step{load(5), 0, true, some(1)}, step{load(4), 0, true, some(1)}, step{load(0), 5<<32 + 5, true, some(1)}, step{load(1), 6, true, some(1)},
		step{cas(0, 5<<32+5, 5<<32+6), 0, true, some(1)}, step{load(3), 9, true, some(1)}, step{load(0), 5<<32 + 6, true, some(1, 9)}, step{cas(0, 5<<32+6, 6<<32+6), 0, true, some(1, 9)})
}

// R4: what they tell is the caller's, and so is what they hold.
func TestToldIsTheCallers(t *testing.T) {
	r, target := ring.Row{At: 0, Size: 8}, ring.Row{At: 10, Size: 8}
	w := r.Push(5)
	for _, v := range some(0, 8, 0, 61, 62) {
		w.Give(v, true)
		spoil(w.Held())
	}
	holds(t, w, 5, 61, 62)
	w.Give(63, true)
	w.Give(64, true)
	end, _ := w.Result()
	spoil(end.L)
	isEnded(t, w, api.Result{Code: api.Full, L: some(61, 62, 63, 64)})
	w = r.Steal(target)
	for _, v := range some(0, 0, 0, 3, 0, 61) {
		w.Give(v, true)
		spoil(w.Held())
	}
	holds(t, w, 61)
	w.Give(0, true)
	w.Give(62, true)
	spoil(w.Held())
	holds(t, w, 61, 62)
}

func spoil(l []uint64) {
	for i := range l {
		l[i] = 1000
	}
	_ = append(l, 1001)
}

// P8.2

func TestAll(t *testing.T) {
	r := ring.Row{At: 1, Size: 4}
	for _, c := range []struct {
		head, tail uint64
		in         []uint64
		e          api.Code
	}{
		{0, 0, nil, api.Fine},
		{0, 1, some(60), api.Fine},
		{0, 4, some(60, 61, 62, 63), api.Fine},
		{0, 5, nil, api.Broken},
		{0, 6, nil, api.Broken},
		{0, all, nil, api.Broken},
		{5<<32 + 5, 4, nil, api.Broken},
		{5<<32 + 5, 5, nil, api.Fine},
		{5<<32 + 5, 7, some(61, 62), api.Fine},
		{5<<32 + 5, 9, some(61, 62, 63, 60), api.Fine},
		{5<<32 + 5, 10, nil, api.Broken},
		// What is being stolen is of no matter.
		{4<<32 + 5, 9, some(61, 62, 63, 60), api.Fine},
		{1<<32 + 5, 7, some(61, 62), api.Fine},
		{9<<32 + 5, 7, some(61, 62), api.Fine},
		{5 << 32, 1, some(60), api.Fine},
		{5 << 32, 5, nil, api.Broken},
		{1<<32 + 5, 4, nil, api.Broken},
		{all, 0, some(63), api.Fine},
		{all, 3, some(63, 60, 61, 62), api.Fine},
		{all, 4, nil, api.Broken},
		{all - 1, 1, some(62, 63, 60), api.Fine},
		{all, all - 1, nil, api.Broken},
		{turn - 1, turn + 1, some(63, 60), api.Fine},
		{turn, turn - 1, nil, api.Broken},
		{0, turn, nil, api.Broken},
		{0, turn - 1, nil, api.Broken},
		{turn, 0, nil, api.Broken},
		{turn + 1, 0, nil, api.Broken},
		// Of a tail its lo alone counts.
		{0, 1<<32 + 2, some(60, 61), api.Fine},
		{all<<32 + all, all<<32 + 1, some(63, 60), api.Fine},
		{2<<32 + 2, 9<<32 + 1, nil, api.Broken},
		{2<<32 + 2, 9<<32 + 7, nil, api.Broken},
	} {
		want := some(9, c.head, c.tail, 60, 61, 62, 63, 9)
		m := memory(t, want...)
		l, e := r.All(m)
		if e != c.e || !slices.Equal(l, c.in) {
			t.Errorf("head %#x, tail %#x: in it are %d, %d, not %d, %d", c.head, c.tail, l, e, c.in, c.e)
		}
		isCells(t, m, want...)
	}
}

// By the chapter's words, of all sizes, wherever the head and the tail stand.
func TestAllOfAllSizes(t *testing.T) {
	fine, codes := 0, map[api.Code]int{}
	for _, size := range sizes() {
		for _, at := range []int{0, 3} {
			r := ring.Row{At: at, Size: size}
			m := filled(t, at+size+2, 0)
			for n := range size {
				m.Do(store(at+2+n, uint64(n)*5+1))
			}
			for i, first := range counts() {
				for _, tail := range append(counts(), plus(first, round-2), plus(first, round-1), first, plus(first, 1), plus(first, size-1), plus(first, size), plus(first, size+1)) {
					m.Do(store(at, pair(uint64(i)*77, first)))
					m.Do(store(at+1, uint64(i%3)*junk+tail))
					by := aheadOf(tail, first)
					want, code := []uint64(nil), api.Fine
					if by < 0 || by > size {
						code = api.Broken
					}
					for n := first; code == api.Fine && n != tail; n = plus(n, 1) {
						want = append(want, uint64(slot(r, n)-at-2)*5+1)
					}
					l, e := r.All(m)
					if e != code || !slices.Equal(l, want) {
						t.Fatalf("%+v, first %d, tail %d: in it are %d, %d, not %d, %d", r, first, tail, l, e, want, code)
					}
					codes[e]++
					fine += len(l)
				}
			}
		}
	}
	if fine == 0 || codes[api.Fine] == 0 || codes[api.Broken] == 0 || len(codes) != 2 {
		t.Error(fine, codes)
	}
}

// At the end of the greatest memory there is, too.
func TestAllOfTheLast(t *testing.T) {
	r := ring.Row{At: api.MaxCells - 258, Size: 256}
	m := filled(t, api.MaxCells, 0)
	var want []uint64
	for n := range uint64(256) {
		m.Do(store(r.At+2+int(n), n+1))
		want = append(want, n+1)
	}
	m.Do(store(r.At+1, 256))
	isIn(t, r, m, want...)
	m.Do(store(r.At, 255))
	isIn(t, r, m, 256)
	m.Do(store(r.At+1, 511))
	isIn(t, r, m, append(some(256), want[:255]...)...)
}

// A memory that ends with the last slot has room enough, and one with a cell less hasn't.
func TestPlace(t *testing.T) {
	for _, size := range []int{2, 4, 256} {
		for at := range 3 {
			r := ring.Row{At: at, Size: size}
			for n := 1; n <= at+size+3; n++ {
				m := filled(t, n, 0)
				want := api.Fine
				if n < at+size+2 {
					want = api.Place
				}
				l, e := r.All(m)
				if e != want || len(l) != 0 {
					t.Errorf("%+v of %d cells: %d, %d", r, n, l, e)
				}
			}
		}
	}
	_, e := ring.Row{At: 0, Size: 2}.All(new(cells.Mem))
	told(t, e, api.Place)
}

// Nil ahead of Arg, Arg ahead of Place, Place ahead of Broken.
func TestAllRefuses(t *testing.T) {
	for _, r := range append(wrong(), ring.Row{At: 0, Size: 4}) {
		if l, e := r.All(nil); e != api.Nil || len(l) != 0 {
			t.Errorf("%+v: %d, %d", r, l, e)
		}
	}
	m := memory(t, 1, 9, 5, 1, 1, 1)
	for _, r := range wrong() {
		if l, e := r.All(m); e != api.Arg || len(l) != 0 {
			t.Errorf("%+v: %d, %d", r, l, e)
		}
	}
	for _, r := range []ring.Row{{1, 4}, {0, 8}, {3, 2}, {5, 2}, {6, 2}, {0, 256}, {65278, 256}} {
		if l, e := r.All(m); e != api.Place || len(l) != 0 {
			t.Errorf("%+v: %d, %d", r, l, e)
		}
	}
	for _, r := range []ring.Row{{0, 4}, {0, 2}, {1, 2}} {
		if l, e := r.All(m); e != api.Broken || len(l) != 0 {
			t.Errorf("%+v: %d, %d", r, l, e)
		}
	}
	isCells(t, m, 1, 9, 5, 1, 1, 1)
}

// R4: each time it is asked, another list is told.
func TestAllIsTheCallers(t *testing.T) {
	r := ring.Row{At: 0, Size: 4}
	m := memory(t, 0, 3, 60, 61, 62, 63)
	l, _ := r.All(m)
	spoil(l)
	isIn(t, r, m, 60, 61, 62)
	isCells(t, m, 0, 3, 60, 61, 62, 63)
}
