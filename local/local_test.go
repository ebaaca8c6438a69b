package local_test

import (
	"math"
	"slices"
	"testing"

	"coachyard/api"
	"coachyard/cells"
	"coachyard/deque"
	"coachyard/local"
	"coachyard/queue"
	"coachyard/ring"
)

const (
	round = 1 << 32 // where a ring's counts go round
	turn  = 1 << 31 // where those that are ahead begin to look like those behind
	half  = 1 << 63 // where a deque's do
	all   = math.MaxUint64
)

func sizes() []int {
	return []int{2, 4, 8, 16, 32, 64, 128, 256}
}

// ends are numbers at and beside the ends of sizes, cells and int.
func ends() []int {
	return []int{math.MinInt, math.MinInt + 1, -1 << 32, -api.MaxCells, -256, -4, -2, -1, 0, 1, 2, 3, 4, 5, 6, 7, 8, 12, 16, 31, 32, 33, 63, 64, 65, 127, 128, 129,
		254, 255, 256, 257, 258, 384, 511, 512, 1024, api.MaxCells - 513, api.MaxCells - 259, api.MaxCells - 258, api.MaxCells - 257, api.MaxCells - 256,
		api.MaxCells - 10, api.MaxCells - 6, api.MaxCells - 5, api.MaxCells - 4, api.MaxCells - 3, api.MaxCells - 2, api.MaxCells - 1, api.MaxCells, api.MaxCells + 1,
		1 << 32, 1<<32 + 1, 1<<32 + 2, 1 << 62, math.MaxInt - api.MaxCells, math.MaxInt - 257, math.MaxInt - 3, math.MaxInt - 2, math.MaxInt - 1, math.MaxInt}
}

// strange are kinds that there aren't.
func strange() []int {
	return []int{math.MinInt, math.MinInt + 1, -1 << 32, -1<<32 + 1, -256, -255, -2, -1, 2, 3, 4, 256, 257, 65536, 65537, 1 << 31, 1 << 32, 1<<32 + 1, math.MaxInt - 1, math.MaxInt}
}

// isRight reckons by the chapters' words.
func isRight(r local.Row) bool {
	return (r.Kind == 0 || r.Kind == 1) && slices.Contains(sizes(), r.Size) && 0 <= r.At && r.At <= 65534-r.Size
}

// rights are rows that are right, at the ends of what can be, and within.
func rights() []local.Row {
	var l []local.Row
	for kind := range 2 {
		for _, size := range sizes() {
			for _, at := range []int{0, 1, 7, 1000, 65533 - size, 65534 - size} {
				l = append(l, local.Row{Kind: kind, At: at, Size: size})
			}
		}
	}
	return l
}

// wrongs are rows that aren't right.
func wrongs() []local.Row {
	var l []local.Row
	for kind := range 2 {
		for _, size := range sizes() {
			for _, at := range []int{math.MinInt, -65536, -size, -2, -1, 65535 - size, 65534, 65535, 65536, 1 << 32, math.MaxInt - size - 1, math.MaxInt - 1, math.MaxInt} {
				l = append(l, local.Row{Kind: kind, At: at, Size: size})
			}
		}
		for _, size := range ends() {
			if !slices.Contains(sizes(), size) {
				l = append(l, local.Row{Kind: kind, At: 3, Size: size})
			}
		}
	}
	for _, kind := range strange() {
		for _, at := range []int{-1, 0, 1, 65530} {
			for _, size := range []int{0, 2, 4, 256} {
				l = append(l, local.Row{Kind: kind, At: at, Size: size})
			}
		}
	}
	return append(l, local.Row{})
}

func dequeOf(r local.Row) deque.Row {
	return deque.Row{At: r.At, Size: r.Size}
}

func ringOf(r local.Row) ring.Row {
	return ring.Row{At: r.At, Size: r.Size}
}

// The chapters' reckoning: of a ring in numbers that are wide enough not to go round by themselves.

func pair(hi, lo uint64) uint64 {
	return hi*round + lo
}

func loOf(u uint64) uint64 {
	return u % round
}

// aheadOf tells by how much a ring's number is ahead of another one.
func aheadOf(a, b uint64) int64 {
	d := int64(a) - int64(b)
	if d >= turn {
		d -= round
	}
	if d < -turn {
		d += round
	}
	return d
}

// countOf tells how many tasks stand between what a row's first two cells are.
func countOf(kind int, first, end uint64) int64 {
	if kind == 1 {
		return aheadOf(loOf(end), loOf(first))
	}
	d := end - first
	if d >= half {
		return -int64(all-d) - 1
	}
	return int64(d)
}

func slot(r local.Row, n uint64) int {
	return r.At + 2 + int(n%uint64(r.Size))
}

// in tells what is in a row, by a list of all cells.
func in(r local.Row, l []uint64) ([]uint64, api.Code) {
	n, least := countOf(r.Kind, l[r.At], l[r.At+1]), int64(r.Kind-1)
	if n < least || n > int64(r.Size) {
		return nil, api.Broken
	}
	var tasks []uint64
	for i := int64(0); i < n; i++ {
		// As its size is a power of 2, what stands above lo is no matter to a ring's slots.
		tasks = append(tasks, l[slot(r, l[r.At]+uint64(i))])
	}
	return tasks, api.Fine
}

// memory is one of just these cells.
func memory(t *testing.T, l ...uint64) *cells.Mem {
	t.Helper()
	m, e := cells.New(len(l))
	if e != api.Fine || m.Fill(l) != api.Fine {
		t.Fatal(e)
	}
	return m
}

func isCells(t *testing.T, m *cells.Mem, want ...uint64) {
	t.Helper()
	if l := m.All(); !slices.Equal(l, want) {
		t.Fatalf("the cells are %#x, not %#x", l, want)
	}
}

func told(t *testing.T, got, want api.Code) {
	t.Helper()
	if got != want {
		t.Fatalf("told %d, not %d", got, want)
	}
}

func isIn(t *testing.T, r local.Row, m *cells.Mem, want ...uint64) {
	t.Helper()
	if l, e := r.All(m); e != api.Fine || !slices.Equal(l, want) {
		t.Fatalf("%+v: in it are %d, %d, not %d", r, l, e, want)
	}
}

func refuses(t *testing.T, r local.Row, m *cells.Mem, want api.Code) {
	t.Helper()
	if l, e := r.All(m); e != want || len(l) != 0 {
		t.Fatalf("%+v: told %d, %d, not %d", r, l, e, want)
	}
}

// drawn tells numbers that look like drawn ones, the same ones each time.
func drawn(seed uint64) func(n int) int {
	return func(n int) int {
		seed = seed*6364136223846793005 + 1442695040888963407
		return int(seed >> 33 % uint64(n))
	}
}

// lines are queues that are right, at the ends of what can be, and within.
func lines() []queue.Line {
	var l []queue.Line
	for _, n := range []int{2, 3, 4, 5, 100, 256, 4095, 4096} {
		for _, at := range []int{0, 1, 7, 1000, 65532 - 3*n, 65533 - 3*n} {
			l = append(l, queue.Line{At: at, N: n})
		}
	}
	return l
}

// wrongLines are queues that aren't right.
func wrongLines() []queue.Line {
	l := []queue.Line{{}}
	for _, n := range []int{2, 3, 100, 4096} {
		for _, at := range []int{math.MinInt, -65536, -3 * n, -2, -1, 65534 - 3*n, 65534, 65535, 65536, 1 << 32, math.MaxInt - 3*n - 2, math.MaxInt - 1, math.MaxInt} {
			l = append(l, queue.Line{At: at, N: n})
		}
	}
	for _, n := range []int{math.MinInt, math.MinInt + 1, -1 << 32, -4096, -2, -1, 0, 1, 4097, 21844, 21845, 65536, 1 << 32, 1<<32 + 2, 1<<32 + 3, 6148914691236517205, 6148914691236517206, math.MaxInt - 1, math.MaxInt} {
		l = append(l, queue.Line{At: 3, N: n})
	}
	return l
}

// P13.1

func TestRight(t *testing.T) {
	for _, kind := range append(strange(), 0, 1) {
		for _, at := range ends() {
			for _, size := range ends() {
				r := local.Row{Kind: kind, At: at, Size: size}
				if r.Right() != isRight(r) {
					t.Fatalf("%+v: %t", r, r.Right())
				}
			}
		}
	}
	for _, r := range rights() {
		if !r.Right() {
			t.Errorf("%+v isn't right", r)
		}
	}
	for _, r := range wrongs() {
		if r.Right() {
			t.Errorf("%+v is right", r)
		}
	}
}

func TestRightOfAllSizes(t *testing.T) {
	for kind := -3; kind <= 5; kind++ {
		for size := -3; size <= 1030; size++ {
			for _, at := range []int{-1, 0, 5, 65533 - size, 65534 - size, 65535 - size} {
				r := local.Row{Kind: kind, At: at, Size: size}
				if r.Right() != isRight(r) {
					t.Fatalf("%+v: %t", r, r.Right())
				}
			}
		}
	}
}

// P13.2

// The same cells are something else to each kind.
func TestAllWrittenOut(t *testing.T) {
	for _, c := range []struct {
		first, end  uint64
		deque, ring []uint64
		code        [2]api.Code
	}{
		{0, 0, nil, nil, [2]api.Code{}},
		{0, 1, []uint64{10}, []uint64{10}, [2]api.Code{}},
		{6, 9, []uint64{12, 13, 10}, []uint64{12, 13, 10}, [2]api.Code{}},
		{3, 7, []uint64{13, 10, 11, 12}, []uint64{13, 10, 11, 12}, [2]api.Code{}},
		{3, 8, nil, nil, [2]api.Code{9, 9}},
		{3, 2, nil, nil, [2]api.Code{0, 9}},
		{3, 1, nil, nil, [2]api.Code{9, 9}},
		{5<<32 + 6, 9, nil, []uint64{12, 13, 10}, [2]api.Code{9, 0}},
		{6, 5<<32 + 9, nil, []uint64{12, 13, 10}, [2]api.Code{9, 0}},
		{5<<32 + 6, 5<<32 + 8, []uint64{12, 13}, []uint64{12, 13}, [2]api.Code{}},
		{1<<32 - 1, 1, nil, []uint64{13, 10}, [2]api.Code{9, 0}},
		{1<<32 - 1, 1<<32 + 1, []uint64{13, 10}, []uint64{13, 10}, [2]api.Code{}},
		{1<<32 - 1, 1 << 32, []uint64{13}, []uint64{13}, [2]api.Code{}},
		{all, 2, []uint64{13, 10, 11}, []uint64{13, 10, 11}, [2]api.Code{}},
		{half - 2, half + 1, []uint64{12, 13, 10}, []uint64{12, 13, 10}, [2]api.Code{}},
		{turn - 2, turn + 1, []uint64{12, 13, 10}, []uint64{12, 13, 10}, [2]api.Code{}},
	} {
		l := []uint64{77, c.first, c.end, 10, 11, 12, 13, 88}
		for kind, want := range [][]uint64{c.deque, c.ring} {
			m := memory(t, l...)
			x, e := local.Row{Kind: kind, At: 1, Size: 4}.All(m)
			if e != c.code[kind] || !slices.Equal(x, want) {
				t.Errorf("%+v: of the kind %d %d, %d", c, kind, x, e)
			}
			isCells(t, m, l...)
		}
	}
}

func TestAllOfAllRows(t *testing.T) {
	draw := drawn(1)
	great := make([]uint64, api.MaxCells)
	for i := range great {
		great[i] = uint64(i) * 1000003
	}
	m := memory(t, great...)
	for _, r := range rights() {
		for range 40 {
			first := firsts(r.Kind)[draw(len(firsts(r.Kind)))]
			end := first + uint64(draw(r.Size+7)-3)
			great[r.At], great[r.At+1] = first, end
			m.Do(store(r.At, first))
			m.Do(store(r.At+1, end))
			want, code := in(r, great)
			if l, e := r.All(m); e != code || !slices.Equal(l, want) {
				t.Fatalf("%+v, %#x to %#x: told %d, %d, not %d, %d", r, first, end, l, e, want, code)
			}
		}
	}
	isCells(t, m, great...)
}

// Nil ahead of Arg, Arg ahead of Place, Place ahead of Broken; nothing is done.
func TestAllRefuses(t *testing.T) {
	for _, r := range append(rights(), wrongs()...) {
		refuses(t, r, nil, api.Nil)
	}
	great := slices.Repeat([]uint64{3}, api.MaxCells)
	m := memory(t, great...)
	for _, r := range wrongs() {
		refuses(t, r, m, api.Arg)
		refuses(t, r, memory(t, 5), api.Arg)
		refuses(t, r, new(cells.Mem), api.Arg)
	}
	isCells(t, m, great...)
	for _, r := range rights() {
		refuses(t, r, memory(t, make([]uint64, r.At+r.Size+1)...), api.Place)
		isIn(t, r, memory(t, make([]uint64, r.At+r.Size+2)...))
		refuses(t, r, new(cells.Mem), api.Place)
		l := make([]uint64, r.At+r.Size+2)
		l[r.At+1] = uint64(r.Size) + 1
		refuses(t, r, memory(t, l[:len(l)-1]...), api.Place)
		refuses(t, r, memory(t, l...), api.Broken)
	}
}

// What is told is the caller's.
func TestAllIsKeptNowhere(t *testing.T) {
	for kind := range 2 {
		r := local.Row{Kind: kind, Size: 4}
		m := memory(t, 0, 2, 8, 9, 0, 0)
		l, _ := r.All(m)
		l[0] = 1000
		_ = append(l, 1001)
		isIn(t, r, m, 8, 9)
		isCells(t, m, 0, 2, 8, 9, 0, 0)
	}
}
