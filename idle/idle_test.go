package idle_test

import (
	"math"
	"slices"
	"testing"

	"coachyard/api"
	"coachyard/cells"
	"coachyard/idle"
	"coachyard/word"
)

const (
	top = math.MaxUint32
	all = math.MaxUint64
)

// ends are numbers at and beside the ends of workers, cells and int.
func ends() []int {
	return []int{math.MinInt, math.MinInt + 1, -1 << 32, -api.MaxCells, -64, -32, -16, -2, -1, 0, 1, 2, 3, 14, 15, 16, 17, 18, 31, 32, 33, 63, 64, 65,
		api.MaxCells - 2, api.MaxCells - 1, api.MaxCells, api.MaxCells + 1, 1<<32 - 1, 1 << 32, 1<<32 + 1, 1<<32 + 16, math.MaxInt - 1, math.MaxInt}
}

// wrong are yards that aren't right.
func wrong() []idle.Yard {
	var l []idle.Yard
	for _, at := range ends() {
		for _, n := range ends() {
			if at < 0 || at > 65535 || n < 1 || n > 16 {
				l = append(l, idle.Yard{At: at, Workers: n})
			}
		}
	}
	return l
}

// memory is one of just these cells.
func memory(t *testing.T, l ...uint64) *cells.Mem {
	t.Helper()
	m, e := cells.New(len(l))
	if e != api.Fine || m.Fill(l) != api.Fine {
		t.Fatal(e)
	}
	return m
}

func isCells(t *testing.T, m *cells.Mem, want ...uint64) {
	t.Helper()
	if l := m.All(); !slices.Equal(l, want) {
		t.Fatalf("the cells are %#x, not %#x", l, want)
	}
}

func told(t *testing.T, got, want api.Code) {
	t.Helper()
	if got != want {
		t.Fatalf("told %d, not %d", got, want)
	}
}

func looks(t *testing.T, y idle.Yard, m *cells.Mem, n int, idle ...int) {
	t.Helper()
	if k, l, e := y.Look(m); k != n || !slices.Equal(l, idle) || e != api.Fine {
		t.Fatalf("%+v: it tells %d, %v, %d, not %d, %v", y, k, l, e, n, idle)
	}
}

func refuses(t *testing.T, y idle.Yard, m *cells.Mem, want api.Code) {
	t.Helper()
	if k, l, e := y.Look(m); k != 0 || len(l) != 0 || e != want {
		t.Fatalf("%+v: it tells %d, %v, %d, not %d", y, k, l, e, want)
	}
}

func pair(hi, lo uint32) uint64 { return word.Pair(hi, lo) }

// counts are numbers of those who are searching, at all ends that matter.
func counts() []uint32 {
	return []uint32{0, 1, 2, 3, 4, 5, 6, 7, 8, 9, 10, 15, 16, 17, 1 << 16, 1<<31 - 1, 1 << 31, 1<<31 + 1, 1<<31 + 7, top - 1, top}
}

// marks are lower halves: each bit alone, all but one, and some.
func marks() []uint32 {
	l := []uint32{0, top, 1 << 31, 0xffff, 0xffff0000, 0xfff0, 0x5555aaaa, 0xaaaa5555, 0x12345678, 6, 5, 3}
	for i := range 32 {
		l = append(l, 1<<i, ^uint32(1<<i))
	}
	return l
}

// state is what the chapter says that a cell is.
type state struct {
	searching uint64
	idle      [32]bool // those of no workers, too, though they play no part
}

func stateOf(u uint64) state {
	var s state
	for i := range s.idle {
		s.idle[i] = u%2 == 1
		u /= 2
	}
	s.searching = u
	return s
}

func (s state) cell() uint64 {
	u := s.searching
	for i := len(s.idle) - 1; i >= 0; i-- {
		u *= 2
		if s.idle[i] {
			u++
		}
	}
	return u
}

// idlers are the workers of so many who are idle, rising.
func (s state) idlers(workers int) []int {
	var l []int
	for i := 0; i < workers; i++ {
		if s.idle[i] {
			l = append(l, i)
		}
	}
	return l
}

// P10.1

func TestRight(t *testing.T) {
	for _, at := range []int{0, 1, 2, 17, 32768, 65534, 65535} {
		for n := 1; n <= 16; n++ {
			if !(idle.Yard{At: at, Workers: n}).Right() {
				t.Errorf("%d workers at %d aren't right", n, at)
			}
		}
	}
	for _, y := range append(wrong(), idle.Yard{}, idle.Yard{At: 5}, idle.Yard{Workers: 17}, idle.Yard{At: -1, Workers: 1}, idle.Yard{At: 65536, Workers: 1}) {
		if y.Right() {
			t.Errorf("%+v is right", y)
		}
	}
}

// P10.2

func TestLook(t *testing.T) {
	for _, c := range []struct {
		workers int
		cell    uint64
		n       int
		idle    []int
	}{
		{1, 0, 0, nil},
		{1, 1, 0, []int{0}},
		{1, 2, 0, nil},
		{1, pair(1, 3), 1, []int{0}},
		{2, pair(2, 2), 2, []int{1}},
		{4, pair(4, 0xfff0), 4, nil},
		{4, pair(0, 0xfff9), 0, []int{0, 3}},
		{15, pair(0, 0xffff), 0, []int{0, 1, 2, 3, 4, 5, 6, 7, 8, 9, 10, 11, 12, 13, 14}},
		{16, pair(1<<31, 0x8001), 1 << 31, []int{0, 15}},
		{16, pair(top, top), 1<<32 - 1, []int{0, 1, 2, 3, 4, 5, 6, 7, 8, 9, 10, 11, 12, 13, 14, 15}},
		{16, 0xffff0000, 0, nil},
	} {
		m := memory(t, all, all, c.cell, all)
		looks(t, idle.Yard{At: 2, Workers: c.workers}, m, c.n, c.idle...)
		isCells(t, m, all, all, c.cell, all)
	}
}

func TestLookAtAll(t *testing.T) {
	for n := 1; n <= 16; n++ {
		for _, hi := range counts() {
			for _, lo := range marks() {
				for _, beside := range []uint64{0, all} {
					s := stateOf(pair(hi, lo))
					m := memory(t, beside, pair(hi, lo), beside)
					looks(t, idle.Yard{At: 1, Workers: n}, m, int(hi), s.idlers(n)...)
					isCells(t, m, beside, pair(hi, lo), beside)
				}
			}
		}
	}
}

// Who is idle is told rising, and wholly, of all that sixteen bits can be.
func TestLookAtAllSets(t *testing.T) {
	m := memory(t, 0)
	for lo := range uint64(1 << 16) {
		m.Fill([]uint64{lo})
		looks(t, idle.Yard{At: 0, Workers: 16}, m, 0, stateOf(lo).idlers(16)...)
	}
}

// The last cell that there is may be a yard's, too.
func TestLookAtTheEnds(t *testing.T) {
	m, _ := cells.New(api.MaxCells)
	m.Do(api.Access{Kind: api.Store, Cell: api.MaxCells - 1, A: pair(3, 4)})
	m.Do(api.Access{Kind: api.Store, Cell: 0, A: pair(5, 2)})
	looks(t, idle.Yard{At: api.MaxCells - 1, Workers: 3}, m, 3, 2)
	looks(t, idle.Yard{At: 0, Workers: 3}, m, 5, 1)
	refuses(t, idle.Yard{At: api.MaxCells, Workers: 3}, m, api.Arg)
}

// Nil ahead of Arg, Arg ahead of Place; nothing is done.
func TestLookRefuses(t *testing.T) {
	m := memory(t, all, all)
	great, _ := cells.New(api.MaxCells)
	for _, y := range append(wrong(), idle.Yard{At: 0, Workers: 1}, idle.Yard{At: 1, Workers: 16}, idle.Yard{At: 65535, Workers: 16}) {
		refuses(t, y, nil, api.Nil)
	}
	for _, y := range wrong() {
		refuses(t, y, m, api.Arg)
		refuses(t, y, great, api.Arg)
	}
	for n := 1; n <= 16; n++ {
		for _, at := range []int{2, 3, 4, 65534, 65535} {
			refuses(t, idle.Yard{At: at, Workers: n}, m, api.Place)
		}
		refuses(t, idle.Yard{At: 0, Workers: n}, new(cells.Mem), api.Place)
	}
	isCells(t, m, all, all)
}

// R4: each time it is asked, another list is told.
func TestLookIsTheCallers(t *testing.T) {
	y := idle.Yard{At: 0, Workers: 4}
	m := memory(t, 15)
	_, l, _ := y.Look(m)
	l[0], l[3] = 50, 60
	_ = append(l[:1], 70)
	looks(t, y, m, 0, 0, 1, 2, 3)
	isCells(t, m, 15)
}
