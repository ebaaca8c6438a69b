package park_test

import (
	"math"
	"slices"
	"testing"

	"coachyard/api"
	"coachyard/cells"
	"coachyard/park"
	"coachyard/word"
)

const (
	top = math.MaxUint32
	all = math.MaxUint64
)

// wrong are parkers that aren't right.
func wrong() []park.Spot {
	var l []park.Spot
	for _, at := range []int{math.MinInt, math.MinInt + 1, -1 << 32, -1<<32 + 1, -65536, -65535, -2, -1, 65536, 65537, 1<<31 - 1, 1 << 31, 1<<32 - 1, 1 << 32, 1<<32 + 1, math.MaxInt - 1, math.MaxInt} {
		l = append(l, park.Spot{At: at})
	}
	return l
}

// memory is one of just these cells.
func memory(t *testing.T, l ...uint64) *cells.Mem {
	t.Helper()
	m, e := cells.New(len(l))
	if e != api.Fine || m.Fill(l) != api.Fine {
		t.Fatal(e)
	}
	return m
}

func isCells(t *testing.T, m *cells.Mem, want ...uint64) {
	t.Helper()
	if l := m.All(); !slices.Equal(l, want) {
		t.Fatalf("the cells are %#x, not %#x", l, want)
	}
}

func told(t *testing.T, got, want api.Code) {
	t.Helper()
	if got != want {
		t.Fatalf("told %d, not %d", got, want)
	}
}

func looks(t *testing.T, s park.Spot, m *cells.Mem, epoch uint32, means bool) {
	t.Helper()
	if n, is, e := s.Look(m); n != epoch || is != means || e != api.Fine {
		t.Fatalf("%+v: it tells %d, %t, %d, not %d, %t", s, n, is, e, epoch, means)
	}
}

func refuses(t *testing.T, s park.Spot, m *cells.Mem, want api.Code) {
	t.Helper()
	if n, is, e := s.Look(m); n != 0 || is || e != want {
		t.Fatalf("%+v: it tells %d, %t, %d, not %d", s, n, is, e, want)
	}
}

func pair(hi, lo uint32) uint64 { return word.Pair(hi, lo) }

// epochs are such at all ends that matter.
func epochs() []uint32 {
	return []uint32{0, 1, 2, 3, 5, 1<<16 - 1, 1 << 16, 1<<31 - 1, 1 << 31, 1<<31 + 1, 0x55555555, 0xaaaaaaaa, top - 2, top - 1, top}
}

// marks are lower halves: each bit alone, all but one, and some.
func marks() []uint32 {
	l := []uint32{0, top, 3, 6, 0x5555aaaa, 0xaaaa5555, 0x12345678}
	for i := range 32 {
		l = append(l, 1<<i, ^uint32(1<<i))
	}
	return l
}

// state is what the chapter says that a cell is.
type state struct {
	epoch  uint64
	means  bool
	beside uint64 // what the other bits are: no matter
}

func stateOf(u uint64) state {
	return state{epoch: u / (1 << 32), means: u%2 == 1, beside: u % (1 << 32) / 2}
}

func (s state) cell() uint64 {
	u := s.epoch*(1<<32) + s.beside*2
	if s.means {
		u++
	}
	return u
}

// called is the state behind a call.
func (s state) called() state {
	s.epoch = (s.epoch + 1) % (1 << 32)
	return s
}

// meaning is the state in which the worker means to wait, or doesn't.
func (s state) meaning(is bool) state {
	s.means = is
	return s
}

// P11.2

func TestLook(t *testing.T) {
	for _, c := range []struct {
		cell  uint64
		epoch uint32
		means bool
	}{
		{0, 0, false}, {1, 0, true}, {2, 0, false}, {3, 0, true}, {1 << 31, 0, false}, {1<<32 - 1, 0, true}, {1<<32 - 2, 0, false},
		{1 << 32, 1, false}, {1<<32 + 1, 1, true}, {5 << 32, 5, false}, {5<<32 + 1, 5, true},
		{1 << 63, 1 << 31, false}, {1<<63 + 1, 1 << 31, true}, {all, top, true}, {all - 1, top, false}, {all - (1<<32 - 1), top, false},
	} {
		m := memory(t, all, all, c.cell, all)
		looks(t, park.Spot{At: 2}, m, c.epoch, c.means)
		isCells(t, m, all, all, c.cell, all)
	}
}

func TestLookAtAll(t *testing.T) {
	for _, hi := range epochs() {
		for _, lo := range marks() {
			for _, beside := range []uint64{0, all} {
				m := memory(t, beside, pair(hi, lo), beside)
				looks(t, park.Spot{At: 1}, m, hi, lo%2 == 1)
				isCells(t, m, beside, pair(hi, lo), beside)
			}
		}
	}
}

// The first and the last cell that there can be may be a parker's, too.
func TestLookAtTheEnds(t *testing.T) {
	m, _ := cells.New(api.MaxCells)
	m.Do(api.Access{Kind: api.Store, Cell: api.MaxCells - 1, A: pair(3, 1)})
	m.Do(api.Access{Kind: api.Store, Cell: 0, A: pair(5, 2)})
	looks(t, park.Spot{At: api.MaxCells - 1}, m, 3, true)
	looks(t, park.Spot{At: api.MaxCells - 2}, m, 0, false)
	looks(t, park.Spot{}, m, 5, false)
	refuses(t, park.Spot{At: api.MaxCells}, m, api.Arg)
}

// Nil ahead of Arg, Arg ahead of Place; nothing is done.
func TestLookRefuses(t *testing.T) {
	m := memory(t, all, all)
	great, _ := cells.New(api.MaxCells)
	great.Fill(slices.Repeat([]uint64{all}, api.MaxCells))
	for _, at := range []int{0, 1, 2, 65534, 65535} {
		refuses(t, park.Spot{At: at}, nil, api.Nil)
	}
	for _, s := range wrong() {
		refuses(t, s, nil, api.Nil)
		refuses(t, s, m, api.Arg)
		refuses(t, s, great, api.Arg)
		refuses(t, s, new(cells.Mem), api.Arg)
	}
	for _, at := range []int{2, 3, 4, 255, 256, 65534, 65535} {
		refuses(t, park.Spot{At: at}, m, api.Place)
	}
	refuses(t, park.Spot{}, new(cells.Mem), api.Place)
	isCells(t, m, all, all)
}
