package cells_test

import (
	"math"
	"slices"
	"testing"

	"coachyard/api"
	"coachyard/cells"
)

const most = math.MaxUint64

// words are ones with bits at both ends, in the midst, everywhere and nowhere.
func words() []uint64 {
	return []uint64{0, 1, 2, 5, 6, 9, 1<<31 - 1, 1 << 31, 1<<32 - 1, 1 << 32, 1<<63 - 1, 1 << 63, 1<<63 | 1,
		0x0123456789abcdef, 0x5555555555555555, 0xaaaaaaaaaaaaaaaa, most - 1, most}
}

func kinds() []int {
	return []int{api.Load, api.Store, api.Cas, api.Add, api.Or, api.And, api.Wait}
}

func noKinds() []int {
	return []int{math.MinInt, -1 << 32, -7, -1, 0, 8, 9, 1<<8 | 1, 1<<32 | 1, math.MaxInt - 1, math.MaxInt}
}

// noPlaces are places that aren't there in a memory of n cells.
func noPlaces(n int) []int {
	return []int{math.MinInt, math.MinInt + 1, -1 << 32, -n, -1, n, n + 1, api.MaxCells, api.MaxCells + 1, 1 << 32, math.MaxInt - 1, math.MaxInt}
}

// with is a memory with just these cells.
func with(t *testing.T, l ...uint64) *cells.Mem {
	t.Helper()
	m, e := cells.New(len(l))
	if e != api.Fine {
		t.Fatalf("New(%d) tells %d", len(l), e)
	}
	if e := m.Fill(l); e != api.Fine {
		t.Fatalf("Fill tells %d", e)
	}
	return m
}

func isAll(t *testing.T, m *cells.Mem, want ...uint64) {
	t.Helper()
	if l := m.All(); !slices.Equal(l, want) {
		t.Errorf("the cells are %v, not %v", l, want)
	}
}

// byBits does f with each two bits at one place, from the lowest on, and hands on what f carries.
func byBits(a, b uint64, f func(x, y, carry uint64) (bit, next uint64)) uint64 {
	sum, carry := uint64(0), uint64(0)
	for i := range 64 {
		var bit uint64
		bit, carry = f(a>>i&1, b>>i&1, carry)
		sum |= bit << i
	}
	return sum
}

// after tells what a cell with v is after an access, and whether that won, by the chapter's words.
func after(v uint64, a api.Access) (uint64, bool) {
	switch a.Kind {
	case api.Store:
		return a.A, true
	case api.Cas:
		if v == a.A {
			return a.B, true
		}
		return v, false
	case api.Add:
		return byBits(v, a.A, func(x, y, c uint64) (uint64, uint64) { return (x + y + c) % 2, (x + y + c) / 2 }), true
	case api.Or:
		return byBits(v, a.A, func(x, y, _ uint64) (uint64, uint64) { return max(x, y), 0 }), true
	case api.And:
		return byBits(v, a.A, func(x, y, _ uint64) (uint64, uint64) { return min(x, y), 0 }), true
	case api.Wait:
		return v, v != a.A
	}
	return v, true
}

// P3.1

func TestNew(t *testing.T) {
	for _, n := range []int{1, 2, 3, 255, 256, api.MaxCells - 1, api.MaxCells} {
		m, e := cells.New(n)
		if m == nil || e != api.Fine {
			t.Fatalf("New(%d) is %v, %d", n, m, e)
		}
		if m.Len() != n {
			t.Errorf("New(%d) has %d cells", n, m.Len())
		}
		if l := m.All(); !slices.Equal(l, make([]uint64, n)) {
			t.Errorf("New(%d) has not just cells of 0", n)
		}
	}
}

func TestNewArg(t *testing.T) {
	for _, n := range []int{math.MinInt, -1 << 32, -api.MaxCells, -1, 0, api.MaxCells + 1, 2 * api.MaxCells, 1 << 32, 1<<32 + 1, math.MaxInt} {
		if m, e := cells.New(n); m != nil || e != api.Arg {
			t.Errorf("New(%d) is %v, %d", n, m, e)
		}
	}
}

func TestLenStays(t *testing.T) {
	m := with(t, 1, 2, 3)
	m.Do(api.Access{Kind: api.Store, Cell: 2, A: 9})
	m.Do(api.Access{Kind: api.Store, Cell: 3, A: 9})
	m.Fill([]uint64{7})
	m.Fill(make([]uint64, 4))
	if m.Len() != 3 {
		t.Error(m.Len())
	}
}

// The kinds' numbers are those of the chapter.
func TestDo(t *testing.T) {
	for i, c := range []struct {
		kind      int
		was, a, b uint64
		is        uint64
		won       bool
	}{
		{1, 5, 9, 8, 5, true}, {1, 0, 0, 0, 0, true},
		{2, 5, 9, 8, 9, true}, {2, 5, 5, 8, 5, true}, {2, most, 0, 1, 0, true},
		{3, 5, 5, 9, 9, true}, {3, 4, 5, 9, 4, false}, {3, 9, 5, 9, 9, false}, {3, 5, 5, 5, 5, true}, {3, 6, 5, 5, 6, false},
		{3, 0, 0, most, most, true}, {3, most, most, 0, 0, true}, {3, 1<<32 | 5, 5, 9, 1<<32 | 5, false}, {3, 1<<63 | 5, 5, 9, 1<<63 | 5, false},
		{4, 5, 2, 8, 7, true}, {4, 5, most, 8, 4, true}, {4, most, 1, 8, 0, true}, {4, 1 << 63, 1 << 63, 8, 0, true}, {4, 1<<32 - 1, 1, 8, 1 << 32, true},
		{4, 5, 0, 8, 5, true}, {4, most, most, 8, most - 1, true},
		{5, 5, 6, 8, 7, true}, {5, 5, 0, 8, 5, true}, {5, 1 << 63, 1, 8, 1<<63 | 1, true}, {5, 5, most, 0, most, true},
		{6, 5, 6, 8, 4, true}, {6, 5, 0, 8, 0, true}, {6, 5, most, 8, 5, true}, {6, 0, most, 8, 0, true},
		{7, 5, 5, 8, 5, false}, {7, 5, 4, 5, 5, true}, {7, 0, 0, 1, 0, false}, {7, 0, most, 0, 0, true}, {7, 1<<32 | 5, 5, 5, 1<<32 | 5, true},
	} {
		m := with(t, c.was)
		v, won, e := m.Do(api.Access{Kind: c.kind, A: c.a, B: c.b})
		if v != c.was || won != c.won || e != api.Fine {
			t.Errorf("%d: told %#x, %t, %d", i, v, won, e)
		}
		if is := m.All()[0]; is != c.is {
			t.Errorf("%d: the cell is %#x then, not %#x", i, is, c.is)
		}
	}
}

// Each access touches its own cell alone, tells what that was, and does what the chapter says.
func TestDoOfAllWords(t *testing.T) {
	for _, kind := range kinds() {
		for at := range 3 {
			for _, was := range words() {
				for _, a := range words() {
					for _, b := range []uint64{0, was, a, ^a, most} {
						tryAccess(t, was, api.Access{Kind: kind, Cell: at, A: a, B: b})
					}
				}
			}
		}
	}
}

func tryAccess(t *testing.T, was uint64, a api.Access) {
	t.Helper()
	want := []uint64{11, 22, 33}
	want[a.Cell] = was
	m := with(t, want...)
	is, wins := after(was, a)
	want[a.Cell] = is
	v, won, e := m.Do(a)
	if v != was || won != wins || e != api.Fine {
		t.Fatalf("%+v of %#x told %#x, %t, %d", a, was, v, won, e)
	}
	if l := m.All(); !slices.Equal(l, want) {
		t.Fatalf("%+v of %#x: the cells are %#x, not %#x", a, was, l, want)
	}
}

// One access goes on where the last one left off.
func TestDoGoesOn(t *testing.T) {
	m := with(t, 0, 0)
	want := []uint64{0, 0}
	for i := range 5000 {
		l := words()
		a := api.Access{Kind: kinds()[i%7], Cell: i / 7 % 2, A: l[i*5%len(l)], B: l[i*11%len(l)]}
		if a.Kind == api.Cas && i%3 > 0 {
			a.A = want[a.Cell]
		}
		was := want[a.Cell]
		is, wins := after(was, a)
		want[a.Cell] = is
		if v, won, e := m.Do(a); v != was || won != wins || e != api.Fine {
			t.Fatalf("%d: %+v of %#x told %#x, %t, %d", i, a, was, v, won, e)
		}
		if l := m.All(); !slices.Equal(l, want) {
			t.Fatalf("%d: after %+v the cells are %#x, not %#x", i, a, l, want)
		}
	}
}

func TestDoAtTheEnds(t *testing.T) {
	m, _ := cells.New(api.MaxCells)
	for _, at := range []int{0, 1, api.MaxCells / 2, api.MaxCells - 1} {
		if v, won, e := m.Do(api.Access{Kind: api.Add, Cell: at, A: uint64(at) + 1}); v != 0 || !won || e != api.Fine {
			t.Errorf("at %d: %d, %t, %d", at, v, won, e)
		}
	}
	for at, v := range m.All() {
		want := uint64(0)
		if at <= 1 || at == api.MaxCells/2 || at == api.MaxCells-1 {
			want = uint64(at) + 1
		}
		if v != want {
			t.Errorf("the cell %d is %d, not %d", at, v, want)
		}
	}
}

// Another kind is Arg, ahead of Place; nothing else is told, and nothing is done.
func TestDoArg(t *testing.T) {
	m := with(t, 5, 6)
	for _, kind := range noKinds() {
		for _, at := range append(noPlaces(2), 0, 1) {
			if v, won, e := m.Do(api.Access{Kind: kind, Cell: at, A: 5, B: 9}); v != 0 || won || e != api.Arg {
				t.Errorf("the kind %d at %d: %d, %t, %d", kind, at, v, won, e)
			}
		}
	}
	isAll(t, m, 5, 6)
}

func TestDoPlace(t *testing.T) {
	for _, n := range []int{1, 2, 7, api.MaxCells} {
		m, _ := cells.New(n)
		for _, kind := range kinds() {
			for _, at := range noPlaces(n) {
				if at >= 0 && at < n {
					continue
				}
				if v, won, e := m.Do(api.Access{Kind: kind, Cell: at, A: 1, B: 9}); v != 0 || won || e != api.Place {
					t.Errorf("the kind %d at %d of %d: %d, %t, %d", kind, at, n, v, won, e)
				}
			}
		}
		if l := m.All(); !slices.Equal(l, make([]uint64, n)) {
			t.Errorf("of %d cells not all are 0", n)
		}
	}
}

// P3.2

func TestAllIsTheCallers(t *testing.T) {
	m := with(t, 1, 2, 3)
	l := m.All()
	l[0] = 99
	_ = append(l[:1], 98)
	isAll(t, m, 1, 2, 3)
	l = m.All()
	m.Do(api.Access{Kind: api.Store, Cell: 1, A: 77})
	if !slices.Equal(l, []uint64{1, 2, 3}) {
		t.Error(l)
	}
}

func TestFill(t *testing.T) {
	for n := 1; n <= 6; n++ {
		for k := 0; k <= n; k++ {
			m, _ := cells.New(n)
			want := make([]uint64, n)
			for i := range n {
				want[i] = most - uint64(i)
			}
			m.Fill(want)
			l := make([]uint64, k)
			for i := range k {
				l[i] = uint64(i) * 3
			}
			if e := m.Fill(l); e != api.Fine {
				t.Errorf("%d of %d cells: %d", k, n, e)
			}
			copy(want, l)
			isAll(t, m, want...)
		}
	}
}

func TestFillOfNothing(t *testing.T) {
	m := with(t, 4, 5)
	for _, l := range [][]uint64{nil, {}} {
		if e := m.Fill(l); e != api.Fine {
			t.Error(e)
		}
		isAll(t, m, 4, 5)
	}
}

// Nothing is done with a list that has more than there are cells, though its first ones would fit.
func TestFillLong(t *testing.T) {
	for n := 1; n <= 4; n++ {
		for _, k := range []int{n + 1, n + 2, 2 * n, 100, api.MaxCells + 1} {
			l := make([]uint64, n)
			l[n-1] = 8
			m := with(t, l...)
			if e := m.Fill(slices.Repeat([]uint64{3}, k)); e != api.Long {
				t.Errorf("%d words in %d cells: %d", k, n, e)
			}
			isAll(t, m, l...)
		}
	}
	m, _ := cells.New(api.MaxCells)
	if e := m.Fill(slices.Repeat([]uint64{3}, api.MaxCells+1)); e != api.Long || m.All()[0] != 0 {
		t.Error(e)
	}
	if e := m.Fill(slices.Repeat([]uint64{3}, api.MaxCells)); e != api.Fine || m.All()[api.MaxCells-1] != 3 {
		t.Error(e)
	}
}

// R4: the list stays as it is, and isn't kept.
func TestFillKeepsNoList(t *testing.T) {
	l := []uint64{1, 2, 3}
	m := with(t, l...)
	m.Do(api.Access{Kind: api.Store, Cell: 0, A: 50})
	if !slices.Equal(l, []uint64{1, 2, 3}) {
		t.Error(l)
	}
	l[1] = 60
	isAll(t, m, 50, 2, 3)
}

func TestCopyGoesItsOwnWay(t *testing.T) {
	m := with(t, 1, 2, 3)
	c := m.Copy()
	if c == m || c.Len() != 3 {
		t.Fatal("the copy is none")
	}
	isAll(t, c, 1, 2, 3)
	m.Do(api.Access{Kind: api.Store, Cell: 0, A: 10})
	c.Do(api.Access{Kind: api.Add, Cell: 2, A: 20})
	isAll(t, m, 10, 2, 3)
	isAll(t, c, 1, 2, 23)
	c.Fill([]uint64{7, 8})
	d := c.Copy()
	m.Fill([]uint64{0, 0, 0})
	isAll(t, c, 7, 8, 23)
	isAll(t, d, 7, 8, 23)
	isAll(t, m, 0, 0, 0)
}

func TestSame(t *testing.T) {
	for n := 1; n <= 5; n++ {
		m, _ := cells.New(n)
		for i := range n {
			m.Do(api.Access{Kind: api.Store, Cell: i, A: uint64(i)})
		}
		if !cells.Same(m, m) || !cells.Same(m, m.Copy()) || !cells.Same(m.Copy(), m) {
			t.Errorf("a copy of %d cells isn't the same", n)
		}
		for i := range n {
			for _, by := range []uint64{1, 1 << 31, 1 << 32, 1 << 63, most} {
				c := m.Copy()
				c.Do(api.Access{Kind: api.Add, Cell: i, A: by})
				if cells.Same(m, c) || cells.Same(c, m) {
					t.Errorf("the cell %d of %d is another one by %#x", i, n, by)
				}
				c.Do(api.Access{Kind: api.Add, Cell: i, A: -by})
				if !cells.Same(m, c) {
					t.Errorf("the cell %d of %d is the same again", i, n)
				}
			}
		}
	}
}

// Memories of which one has more cells aren't the same, though those that both have are.
func TestSameAsMany(t *testing.T) {
	for n := 1; n <= 5; n++ {
		a, _ := cells.New(n)
		b, _ := cells.New(n + 1)
		if cells.Same(a, b) || cells.Same(b, a) {
			t.Errorf("%d and %d cells of 0", n, n+1)
		}
	}
	if a, b := with(t, 1, 2), with(t, 2, 1); cells.Same(a, b) {
		t.Error("1, 2 and 2, 1")
	}
}

// How the cells came to be what they are doesn't count.
func TestSameHoweverMade(t *testing.T) {
	a := with(t, 0, 7)
	b, _ := cells.New(2)
	for range 7 {
		b.Do(api.Access{Kind: api.Add, Cell: 1, A: 1})
	}
	b.Do(api.Access{Kind: api.Wait, Cell: 0, A: 0})
	b.Do(api.Access{Kind: api.Store, Cell: 2, A: 5})
	if !cells.Same(a, b) {
		t.Error(a.All(), b.All())
	}
}

// No memory

func TestNil(t *testing.T) {
	var none *cells.Mem
	if none.Len() != 0 || len(none.All()) != 0 || none.Copy() != nil {
		t.Error("a nil memory has something")
	}
	for _, kind := range append(noKinds(), kinds()...) {
		for _, at := range []int{math.MinInt, -1, 0, 1, math.MaxInt} {
			if v, won, e := none.Do(api.Access{Kind: kind, Cell: at, A: 1}); v != 0 || won || e != api.Nil {
				t.Errorf("the kind %d at %d: %d, %t, %d", kind, at, v, won, e)
			}
		}
	}
	for _, l := range [][]uint64{nil, {}, {1}, make([]uint64, api.MaxCells+1)} {
		if e := none.Fill(l); e != api.Nil {
			t.Errorf("Fill of %d words: %d", len(l), e)
		}
	}
}

func TestSameOfNil(t *testing.T) {
	one, _ := cells.New(1)
	if !cells.Same(nil, nil) || cells.Same(nil, one) || cells.Same(one, nil) {
		t.Error("a nil memory is the same as a nil one alone")
	}
	if cells.Same(nil, new(cells.Mem)) || cells.Same(new(cells.Mem), nil) {
		t.Error("a memory that is there isn't a nil one")
	}
}

// R1: one that New didn't make has no cells, and no call of it panics.
func TestMadeByNobody(t *testing.T) {
	m := new(cells.Mem)
	for _, kind := range kinds() {
		if v, won, e := m.Do(api.Access{Kind: kind}); v != 0 || won || e != api.Place {
			t.Errorf("the kind %d: %d, %t, %d", kind, v, won, e)
		}
	}
	if _, _, e := m.Do(api.Access{}); e != api.Arg {
		t.Error(e)
	}
	if m.Fill(nil) != api.Fine || m.Fill([]uint64{1}) != api.Long {
		t.Error("Fill")
	}
	if m.Len() != 0 || len(m.All()) != 0 || m.Copy().Len() != 0 || !cells.Same(m, m.Copy()) {
		t.Error("it has cells")
	}
}

// R6: nothing is kept between calls but in the memory.
func TestMemoriesApart(t *testing.T) {
	a, b := with(t, 1), with(t, 1)
	a.Do(api.Access{Kind: api.Store, A: 2})
	a.Do(api.Access{Kind: 9})
	if v, won, e := b.Do(api.Access{Kind: api.Load}); v != 1 || !won || e != api.Fine {
		t.Error(v, won, e)
	}
	c, _ := cells.New(1)
	isAll(t, c, 0)
}
