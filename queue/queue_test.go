package queue_test

import (
	"math"
	"slices"
	"testing"

	"coachyard/api"
	"coachyard/arena"
	"coachyard/cells"
	"coachyard/queue"
)

const (
	round = 1 << 32 // where tags go round
	all   = round - 1
)

// ends are numbers at and beside the ends of nodes, cells and int.
func ends() []int {
	return []int{math.MinInt, math.MinInt + 1, -1 << 32, -api.MaxCells, -12290, -4, -3, -2, -1, 0, 1, 2, 3, 4, 5, 6, 7, 8, 9, 10, 21844, 21845, 21846,
		api.MaxNodes - 1, api.MaxNodes, api.MaxNodes + 1, 53244, 53245, 53246, 53247, 53248, 53249, 61439, 61440,
		api.MaxCells - 12, api.MaxCells - 11, api.MaxCells - 10, api.MaxCells - 9, api.MaxCells - 8, api.MaxCells - 7, api.MaxCells - 3, api.MaxCells - 2, api.MaxCells - 1, api.MaxCells, api.MaxCells + 1,
		1 << 32, 1<<32 + 2, 1 << 62, 6148914691236517205, 6148914691236517206, math.MaxInt - api.MaxCells, math.MaxInt - 12290, math.MaxInt - 3, math.MaxInt - 2, math.MaxInt - 1, math.MaxInt}
}

// right are queues that are right, at the ends of what can be, and within.
func right() []queue.Line {
	return []queue.Line{{0, 2}, {0, 3}, {7, 3}, {1, 100}, {0, 4095}, {0, 4096}, {53245, 4096}, {53244, 4096}, {53248, 4095}, {65527, 2}, {65526, 2}, {65524, 3}, {65523, 3}}
}

// wrong are queues that aren't right.
func wrong() []queue.Line {
	return []queue.Line{{}, {0, 1}, {5, 1}, {0, 0}, {0, -1}, {0, -2}, {0, math.MinInt}, {0, math.MaxInt}, {0, 4097}, {0, 21844}, {0, 1 << 32}, {0, 1<<32 + 3}, {0, 6148914691236517206},
		{-1, 2}, {-1, 3}, {-2, 3}, {-3, 4}, {-12290, 4096}, {math.MinInt, 3}, {math.MinInt, math.MinInt}, {math.MaxInt, math.MaxInt}, {math.MaxInt, 3}, {math.MaxInt - 11, 3}, {math.MaxInt - 12289, 4096},
		{65528, 2}, {65529, 2}, {65525, 3}, {65526, 3}, {53246, 4096}, {53249, 4095}, {65535, 2}, {65536, 2}, {1 << 32, 3}}
}

// The chapter's reckoning, in numbers that are wide enough not to go round by themselves.

func pair(tag, node uint64) uint64 {
	return tag*round + node
}

func tagOf(u uint64) uint64 {
	return u / round
}

func nodeOf(u uint64) uint64 {
	return u % round
}

func raised(u, node uint64) uint64 {
	return pair((tagOf(u)+1)%round, node)
}

func taskCell(q queue.Line, node uint64) int {
	return q.At + 2 + q.N + int(node)
}

func nextCell(q queue.Line, node uint64) int {
	return q.At + 2 + 2*q.N + int(node)
}

func isNode(q queue.Line, node uint64) bool {
	return node >= 1 && node <= uint64(q.N)
}

// memory is one of just these cells.
func memory(t *testing.T, l ...uint64) *cells.Mem {
	t.Helper()
	m, e := cells.New(len(l))
	if e != api.Fine || m.Fill(l) != api.Fine {
		t.Fatal(e)
	}
	return m
}

// filled is a memory of n cells, all of them v.
func filled(t *testing.T, n int, v uint64) *cells.Mem {
	t.Helper()
	return memory(t, slices.Repeat([]uint64{v}, n)...)
}

func isCells(t *testing.T, m *cells.Mem, want ...uint64) {
	t.Helper()
	if l := m.All(); !slices.Equal(l, want) {
		t.Fatalf("the cells are %#x, not %#x", l, want)
	}
}

func told(t *testing.T, got, want api.Code) {
	t.Helper()
	if got != want {
		t.Fatalf("told %d, not %d", got, want)
	}
}

func isIn(t *testing.T, q queue.Line, m *cells.Mem, want ...uint64) {
	t.Helper()
	if l, e := q.All(m); e != api.Fine || !slices.Equal(l, want) {
		t.Fatalf("in it are %d, %d, not %d", l, e, want)
	}
}

func load(cell int) api.Access {
	return api.Access{Kind: api.Load, Cell: cell}
}

func store(cell int, v uint64) api.Access {
	return api.Access{Kind: api.Store, Cell: cell, A: v}
}

func cas(cell int, from, to uint64) api.Access {
	return api.Access{Kind: api.Cas, Cell: cell, A: from, B: to}
}

// some is a list, short to write.
func some(l ...uint64) []uint64 {
	return l
}

func spoil(l []uint64) {
	for i := range l {
		l[i] = 1000
	}
	_ = append(l, 1001)
}

// drawn tells numbers that look like drawn ones, the same ones each time.
func drawn(seed uint64) func(n int) int {
	return func(n int) int {
		seed = seed*6364136223846793005 + 1442695040888963407
		return int(seed >> 33 % uint64(n))
	}
}

// P9.1

func TestRight(t *testing.T) {
	for _, q := range right() {
		if !q.Right() {
			t.Errorf("%+v isn't right", q)
		}
	}
	for _, q := range wrong() {
		if q.Right() {
			t.Errorf("%+v is right", q)
		}
	}
}

// By its words, in sums that can't go round: numbers outside of the limits are held against them one by one first.
func TestRightAtAllEnds(t *testing.T) {
	count := 0
	for _, at := range ends() {
		for _, n := range ends() {
			want, cells := false, 0
			if at >= 0 && at < 65536 && n >= 2 && n <= 4096 {
				want = at+3*n+2 < 65536
			}
			its := arena.Arena{}
			if want {
				cells = 3*n + 3
				its = arena.Arena{At: at + 2, N: n}
				count++
			}
			q := queue.Line{At: at, N: n}
			if q.Right() != want || q.Cells() != cells || q.Arena() != its {
				t.Errorf("%+v is right: %t, has %d cells, and the arena %+v", q, q.Right(), q.Cells(), q.Arena())
			}
		}
	}
	if count == 0 {
		t.Error("none was right")
	}
}

func TestCells(t *testing.T) {
	for _, q := range right() {
		if q.Cells() != q.N+q.N+q.N+3 {
			t.Errorf("%+v has %d cells", q, q.Cells())
		}
	}
	for _, q := range wrong() {
		if q.Cells() != 0 {
			t.Errorf("%+v has %d cells", q, q.Cells())
		}
	}
}

// It is one that can be, and whose cells are the queue's.
func TestArena(t *testing.T) {
	for _, q := range right() {
		a := q.Arena()
		if a.At != q.At+2 || a.N != q.N || !a.Right() {
			t.Errorf("%+v has the arena %+v", q, a)
		}
	}
	for _, q := range wrong() {
		if a := q.Arena(); a != (arena.Arena{}) {
			t.Errorf("%+v has the arena %+v", q, a)
		}
	}
}

// begun is what a queue's cells are by the chapter's words.
func begun(n int) []uint64 {
	l := []uint64{1, 1, 2, 0}
	for i := 2; i < n; i++ {
		l = append(l, uint64(i)+1)
	}
	l = append(l, 0)
	return append(l, make([]uint64, 2*n)...)
}

func TestInit(t *testing.T) {
	m := filled(t, 14, 9)
	told(t, queue.Line{At: 1, N: 3}.Init(m), api.Fine)
	isCells(t, m, 9, 1, 1, 2, 0, 3, 0, 0, 0, 0, 0, 0, 0, 9)
	told(t, queue.Line{At: 0, N: 2}.Init(m), api.Fine)
	isCells(t, m, 1, 1, 2, 0, 0, 0, 0, 0, 0, 0, 0, 0, 0, 9)
	m = filled(t, 15, all<<32+all)
	told(t, queue.Line{At: 0, N: 4}.Init(m), api.Fine)
	isCells(t, m, 1, 1, 2, 0, 3, 4, 0, 0, 0, 0, 0, 0, 0, 0, 0)
}

// Whatever was there, only the queue's own cells are made anew, and wholly.
func TestInitOfAllSizes(t *testing.T) {
	for n := 2; n <= 9; n++ {
		for at := range 4 {
			for _, junk := range some(0, 1, 3<<32, math.MaxUint64) {
				q := queue.Line{At: at, N: n}
				m := filled(t, at+3*n+5, junk)
				told(t, q.Init(m), api.Fine)
				isCells(t, m, slices.Concat(slices.Repeat(some(junk), at), begun(n), some(junk, junk))...)
				isIn(t, q, m)
				isFree(t, q, m, numbers(2, n)...)
			}
		}
	}
}

func numbers(from, to int) []int {
	var l []int
	for i := from; i <= to; i++ {
		l = append(l, i)
	}
	return l
}

func isFree(t *testing.T, q queue.Line, m *cells.Mem, want ...int) {
	t.Helper()
	if l, e := q.Arena().Free(m); e != api.Fine || !slices.Equal(l, want) {
		t.Fatalf("free are %d, %d, not %d", l, e, want)
	}
}

func TestInitOfTheGreatest(t *testing.T) {
	q := queue.Line{At: 53245, N: 4096}
	m := filled(t, api.MaxCells, math.MaxUint64)
	told(t, q.Init(m), api.Fine)
	isCells(t, m, slices.Concat(slices.Repeat(some(math.MaxUint64), 53245), begun(4096))...)
	isIn(t, q, m)
	isFree(t, q, m, numbers(2, 4096)...)
}

// A memory that ends with the last node's next has room enough, and one with a cell less hasn't.
func TestPlace(t *testing.T) {
	for n := 2; n <= 4; n++ {
		for at := range 3 {
			q := queue.Line{At: at, N: n}
			for size := 1; size <= at+3*n+5; size++ {
				want := api.Fine
				if size < at+3*n+3 {
					want = api.Place
				}
				m := filled(t, size, 7)
				told(t, q.Init(m), want)
				l, e := q.All(m)
				if e != want || len(l) != 0 {
					t.Errorf("%+v of %d cells: %d, %d", q, size, l, e)
				}
				if want == api.Place {
					isCells(t, m, slices.Repeat(some(7), size)...)
				}
			}
		}
	}
	told(t, queue.Line{At: 0, N: 2}.Init(new(cells.Mem)), api.Place)
	_, e := queue.Line{At: 0, N: 2}.All(new(cells.Mem))
	told(t, e, api.Place)
}

// Nil ahead of Arg, Arg ahead of Place, Place ahead of Broken; what is refused changes nothing.
func TestInitAndAllRefuse(t *testing.T) {
	refused := func(q queue.Line, m *cells.Mem, want api.Code) {
		t.Helper()
		told(t, q.Init(m), want)
		if l, e := q.All(m); e != want || len(l) != 0 {
			t.Errorf("%+v: %d, %d", q, l, e)
		}
	}
	for _, q := range append(wrong(), right()...) {
		refused(q, nil, api.Nil)
	}
	small, great := filled(t, 8, 7), filled(t, api.MaxCells, 7)
	for _, q := range wrong() {
		refused(q, small, api.Arg)
		refused(q, great, api.Arg)
	}
	for _, q := range append(right(), queue.Line{At: 8, N: 2}, queue.Line{At: 7, N: 2}) {
		refused(q, small, api.Place)
	}
	isCells(t, small, slices.Repeat(some(7), 8)...)
	isCells(t, great, slices.Repeat(some(7), api.MaxCells)...)
	if l, e := (queue.Line{At: 0, N: 2}).All(great); e != api.Broken || len(l) != 0 {
		t.Error(l, e)
	}
}

// P9.3

func TestAll(t *testing.T) {
	q := queue.Line{At: 1, N: 4}
	for _, c := range []struct {
		head  uint64
		nexts []uint64
		in    []uint64
		e     api.Code
	}{
		{1, some(0, 0, 0, 0), nil, api.Fine},
		{1, some(2, 0, 0, 0), some(62), api.Fine},
		{1, some(2, 3, 4, 0), some(62, 63, 64), api.Fine},
		{4, some(0, 1, 2, 3), some(63, 62, 61), api.Fine},
		{2, some(0, 4, 0, 1), some(64, 61), api.Fine},
		{3, some(2, 3, 0, 1), nil, api.Fine},
		// Whatever the tags are.
		{all<<32 + 1, some(5<<32+3, 6<<32+1, all<<32+2, 0), some(63, 62), api.Broken},
		{all<<32 + 1, some(5<<32+3, 6<<32, all<<32+2, 0), some(63, 62), api.Fine},
		{7<<32 + 3, some(0, 3, 4<<32, 2), nil, api.Fine},
		// Nodes that are none.
		{0, some(0, 0, 0, 0), nil, api.Broken},
		{7 << 32, some(2, 0, 0, 0), nil, api.Broken},
		{5, some(0, 0, 0, 0), nil, api.Broken},
		{6, some(0, 0, 0, 0), nil, api.Broken},
		{all, some(0, 0, 0, 0), nil, api.Broken},
		{1 << 31, some(0, 0, 0, 0), nil, api.Broken},
		{1<<16 + 1, some(0, 0, 0, 0), nil, api.Broken},
		{1, some(5, 0, 0, 0), nil, api.Broken},
		{1, some(2, 3, 5, 0), nil, api.Broken},
		{1, some(2, 3, 4, 5), nil, api.Broken},
		{1, some(2, 3, 4, all), nil, api.Broken},
		{1, some(2, 1<<31, 0, 0), nil, api.Broken},
		// Nodes that come up twice.
		{1, some(1, 0, 0, 0), nil, api.Broken},
		{1, some(2, 1, 0, 0), nil, api.Broken},
		{1, some(2, 2, 0, 0), nil, api.Broken},
		{1, some(2, 3, 4, 1), nil, api.Broken},
		{1, some(2, 3, 4, 9<<32+2), nil, api.Broken},
		{1, some(2, 3, 4, 4), nil, api.Broken},
	} {
		if c.e != api.Fine {
			c.in = nil
		}
		// Neither the tail nor the arena play a part.
		want := slices.Concat(some(9, c.head, 8, 8, 8, 8, 8, 8, 61, 62, 63, 64), c.nexts, some(9))
		m := memory(t, want...)
		l, e := q.All(m)
		if e != c.e || !slices.Equal(l, c.in) {
			t.Errorf("head %#x, nexts %#x: in it are %d, %d, not %d, %d", c.head, c.nexts, l, e, c.in, c.e)
		}
		isCells(t, m, want...)
	}
}

// byWords tells what is in a queue by the chapter's words.
func byWords(q queue.Line, l []uint64) ([]uint64, api.Code) {
	var in []uint64
	met := map[uint64]bool{}
	for node, first := nodeOf(l[q.At]), true; first || node != 0; first = false {
		if !isNode(q, node) || met[node] {
			return nil, api.Broken
		}
		met[node] = true
		if !first {
			in = append(in, l[taskCell(q, node)])
		}
		node = nodeOf(l[nextCell(q, node)])
	}
	return in, api.Fine
}

// All heads and nexts there are of two, three and four nodes, with something above the numbers, and without.
func TestAllOfAllCells(t *testing.T) {
	fine := map[int]int{}
	for n := 2; n <= 4; n++ {
		q := queue.Line{At: n - 2, N: n}
		m := filled(t, q.At+3*n+3, 5)
		for i := range n {
			m.Do(store(taskCell(q, uint64(i+1)), uint64(60+i)))
		}
		most := int(math.Pow(float64(n+2), float64(n+1)))
		for i := range most {
			m.Do(store(q.At, pair(uint64(i%3), uint64(i%(n+2)))))
			rest := i / (n + 2)
			for k := 1; k <= n; k++ {
				m.Do(store(nextCell(q, uint64(k)), pair(uint64(i%5*k), uint64(rest%(n+2)))))
				rest /= n + 2
			}
			want, code := byWords(q, m.All())
			l, e := q.All(m)
			if e != code || !slices.Equal(l, want) {
				t.Fatalf("%d: in it are %d, %d, not %d, %d", m.All(), l, e, want, code)
			}
			if e == api.Fine {
				fine[n]++
			}
		}
	}
	// Rows of one node and more, each of them ended, all other nexts as they like.
	if fine[2] != 2*4+2 || fine[3] != 3*25+6*5+6 || fine[4] != 4*216+12*36+24*6+24 {
		t.Error(fine)
	}
}

func TestAllOfTheGreatest(t *testing.T) {
	const n = api.MaxNodes
	q := queue.Line{At: 53245, N: n}
	m := filled(t, api.MaxCells, 0)
	told(t, q.Init(m), api.Fine)
	// Falling: the head's node is the last one.
	m.Do(store(q.At, n))
	var want []uint64
	for i := uint64(1); i <= n; i++ {
		m.Do(store(taskCell(q, i), i*3))
		m.Do(store(nextCell(q, i), i-1))
		if i < n {
			want = append(some(i*3), want...)
		}
	}
	isIn(t, q, m, want...)
	for _, node := range some(n, 1, 2, n+1, all) {
		m.Do(store(nextCell(q, 1), node))
		if l, e := q.All(m); e != api.Broken || len(l) != 0 {
			t.Error(node, len(l), e)
		}
	}
}

// R4: each time it is asked, another list is told.
func TestAllIsTheCallers(t *testing.T) {
	q := queue.Line{At: 0, N: 3}
	want := some(1, 3, 0, 0, 0, 0, 61, 62, 63, 2, 3, 0)
	m := memory(t, want...)
	l, _ := q.All(m)
	spoil(l)
	isIn(t, q, m, 62, 63)
	isCells(t, m, want...)
}
