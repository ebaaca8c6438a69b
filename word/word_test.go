package word_test

import (
	"math"
	"slices"
	"testing"

	"coachyard/api"
	"coachyard/word"
)

const all = math.MaxUint64

// words are ones with bits at both ends, in the midst, everywhere and nowhere.
func words() []uint64 {
	return []uint64{0, 1, 2, 5, 24, 0x1234, 1 << 31, 1 << 32, 1<<32 - 1, 1 << 62, 1 << 63, 1<<63 | 1,
		0x8000000000000005, 0x0123456789abcdef, 0xaaaaaaaaaaaaaaaa, 0x5555555555555555, all - 1, all}
}

// ends are numbers at and beside the ends of places, counts and int.
func ends() []int {
	return []int{math.MinInt, math.MinInt + 1, -1 << 32, -65, -64, -63, -1, 0, 1, 2, 31, 32, 33, 62, 63, 64, 65,
		127, 128, 1 << 32, math.MaxInt - 64, math.MaxInt - 63, math.MaxInt - 1, math.MaxInt}
}

func bit(u uint64, at int) bool { return u>>at&1 == 1 }

// fits tells by counting places, without sums, whether there is such a field.
func fits(at, n int) bool {
	if n < 1 || at < 0 || at > 63 || n > 64 {
		return false
	}
	room := 0
	for range 64 - at {
		room++
	}
	return n <= room
}

// P1.1

func TestPairAndSplit(t *testing.T) {
	for _, c := range []struct {
		hi, lo uint32
		u      uint64
	}{
		{0, 0, 0}, {1, 2, 0x100000002}, {2, 1, 0x200000001}, {0, math.MaxUint32, 0xffffffff},
		{math.MaxUint32, 0, 0xffffffff00000000}, {1 << 31, 5, 0x8000000000000005},
		{0x01234567, 0x89abcdef, 0x0123456789abcdef}, {math.MaxUint32, math.MaxUint32, all},
	} {
		if u := word.Pair(c.hi, c.lo); u != c.u {
			t.Errorf("Pair(%#x, %#x) is %#x, not %#x", c.hi, c.lo, u, c.u)
		}
		if hi, lo := word.Split(c.u); hi != c.hi || lo != c.lo {
			t.Errorf("Split(%#x) is %#x, %#x", c.u, hi, lo)
		}
	}
	for _, u := range words() {
		if back := word.Pair(word.Split(u)); back != u {
			t.Errorf("%#x, split and paired, is %#x", u, back)
		}
	}
}

func TestAhead(t *testing.T) {
	const top = math.MaxUint32
	for _, c := range []struct {
		a, b uint32
		n    int
	}{
		{0, 0, 0}, {7, 7, 0}, {top, top, 0}, {5, 3, 2}, {3, 5, -2}, {1, top, 2}, {top, 1, -2}, {0, top, 1}, {top, 0, -1},
		{1 << 31, 0, math.MinInt32}, {0, 1 << 31, math.MinInt32}, {1<<31 + 9, 9, math.MinInt32},
		{1<<31 - 1, 0, math.MaxInt32}, {0, 1<<31 - 1, -math.MaxInt32}, {0, 1<<31 + 1, math.MaxInt32}, {1<<31 + 1, 0, -math.MaxInt32},
	} {
		if n := word.Ahead(c.a, c.b); n != c.n {
			t.Errorf("Ahead(%d, %d) is %d, not %d", c.a, c.b, n, c.n)
		}
	}
}

// By its words: it lies from -2^31 to 2^31 - 1, and added to b makes a, where numbers go round.
func TestAheadAddedToBMakesA(t *testing.T) {
	var numbers []uint32
	for _, u := range words() {
		hi, lo := word.Split(u)
		numbers = append(numbers, hi, lo)
	}
	for _, a := range numbers {
		for _, b := range numbers {
			n := int64(word.Ahead(a, b))
			if n < math.MinInt32 || n > math.MaxInt32 {
				t.Errorf("Ahead(%d, %d) is %d", a, b, n)
			}
			if sum := (int64(b) + n + 1<<32) % (1 << 32); sum != int64(a) {
				t.Errorf("Ahead(%d, %d) is %d, which makes %d", a, b, n, sum)
			}
		}
	}
}

// P1.2

func TestFieldAndWith(t *testing.T) {
	for _, c := range []struct {
		u           uint64
		at, n       int
		v           uint64
		field, with uint64
	}{
		{0, 4, 4, 9, 0, 144},
		{0x1234, 4, 8, 0xff, 0x23, 0x1ff4},
		{0x1234, 4, 8, 0, 0x23, 0x1004},
		{all, 0, 64, 7, all, 7},
		{7, 0, 64, all, 7, all},
		{all, 0, 1, 0, 1, all - 1},
		{all, 63, 1, 0, 1, all >> 1},
		{0, 63, 1, 1, 0, 1 << 63},
		{0x0123456789abcdef, 1, 63, 0, 0x0091a2b3c4d5e6f7, 1},
		{0x0123456789abcdef, 32, 32, 0xffffffff, 0x01234567, 0xffffffff89abcdef},
		{0x0123456789abcdef, 0, 32, 1, 0x89abcdef, 0x0123456700000001},
	} {
		if v, e := word.Field(c.u, c.at, c.n); v != c.field || e != api.Fine {
			t.Errorf("Field(%#x, %d, %d) is %#x, %d", c.u, c.at, c.n, v, e)
		}
		if u, e := word.With(c.u, c.at, c.n, c.v); u != c.with || e != api.Fine {
			t.Errorf("With(%#x, %d, %d, %#x) is %#x, %d", c.u, c.at, c.n, c.v, u, e)
		}
	}
}

// fieldByBits is the field's number, bit by bit.
func fieldByBits(u uint64, at, n int) uint64 {
	v, worth := uint64(0), uint64(1)
	for i := range n {
		if bit(u, at+i) {
			v += worth
		}
		worth *= 2
	}
	return v
}

// Of every field there is, the bits in it are v's, and the others u's.
func TestEveryField(t *testing.T) {
	for at := range 64 {
		for n := 1; at+n <= 64; n++ {
			for _, u := range words() {
				if v, e := word.Field(u, at, n); v != fieldByBits(u, at, n) || e != api.Fine {
					t.Fatalf("Field(%#x, %d, %d) is %#x, %d", u, at, n, v, e)
				}
				for _, v := range words() {
					checkWith(t, u, at, n, v)
				}
			}
		}
	}
}

func checkWith(t *testing.T, u uint64, at, n int, v uint64) {
	t.Helper()
	got, e := word.With(u, at, n, v)
	if hasMore(v, n) {
		if got != 0 || e != api.Long {
			t.Fatalf("With(%#x, %d, %d, %#x) is %#x, %d, not Long", u, at, n, v, got, e)
		}
		return
	}
	if e != api.Fine {
		t.Fatalf("With(%#x, %d, %d, %#x) tells %d", u, at, n, v, e)
	}
	for i := range 64 {
		want := bit(u, i)
		if at <= i && i < at+n {
			want = bit(v, i-at)
		}
		if bit(got, i) != want {
			t.Fatalf("With(%#x, %d, %d, %#x) is %#x: bit %d", u, at, n, v, got, i)
		}
	}
}

func hasMore(v uint64, n int) bool {
	for i := n; i < 64; i++ {
		if bit(v, i) {
			return true
		}
	}
	return false
}

// The greatest number of n bits goes in, and the next one doesn't.
func TestWithLong(t *testing.T) {
	for n := 1; n < 64; n++ {
		at := 64 - n
		if u, e := word.With(0, at, n, 1<<n-1); u != uint64(1<<n-1)<<at || e != api.Fine {
			t.Errorf("the greatest of %d bits: %#x, %d", n, u, e)
		}
		for _, v := range []uint64{1 << n, 1<<n + 1, 1 << 63, all} {
			if u, e := word.With(all, at, n, v); u != 0 || e != api.Long {
				t.Errorf("%#x in %d bits: %#x, %d", v, n, u, e)
			}
		}
	}
	if u, e := word.With(5, 0, 64, all); u != all || e != api.Fine {
		t.Errorf("64 bits: %#x, %d", u, e)
	}
}

// What is no field is Arg, ahead of Long, and nothing else is told (R2); no sum goes round (R5).
func TestNoField(t *testing.T) {
	none := 0
	for _, at := range ends() {
		for _, n := range ends() {
			if fits(at, n) {
				continue
			}
			none++
			for _, v := range []uint64{0, 1, all} {
				if x, e := word.Field(all, at, n); x != 0 || e != api.Arg {
					t.Errorf("Field at %d of %d: %#x, %d", at, n, x, e)
				}
				if u, e := word.With(all, at, n, v); u != 0 || e != api.Arg {
					t.Errorf("With %#x at %d of %d: %#x, %d", v, at, n, u, e)
				}
			}
		}
	}
	if none == 0 {
		t.Error("nothing was tried")
	}
}

func TestNoFieldByOne(t *testing.T) {
	for at := range 64 {
		for _, n := range []int{0, -1, 65 - at} {
			if _, e := word.Field(all, at, n); e != api.Arg {
				t.Errorf("Field at %d of %d: %d", at, n, e)
			}
			if _, e := word.With(all, at, n, 0); e != api.Arg {
				t.Errorf("With at %d of %d: %d", at, n, e)
			}
		}
	}
}

// P1.3

func TestFirst(t *testing.T) {
	if at, ok := word.First(0); at != 0 || ok {
		t.Errorf("First(0) is %d, %t", at, ok)
	}
	for i := range 64 {
		for _, above := range []uint64{0, 1 << 63, 0xaaaaaaaaaaaaaaaa, all} {
			u := uint64(1)<<i | above<<i
			if at, ok := word.First(u); at != i || !ok {
				t.Errorf("First(%#x) is %d, %t", u, at, ok)
			}
		}
	}
}

func TestBits(t *testing.T) {
	for _, c := range []struct {
		u uint64
		l []int
	}{
		{0, nil}, {1, []int{0}}, {24, []int{3, 4}}, {1 << 63, []int{63}}, {0x8000000000000005, []int{0, 2, 63}}, {0x100000001, []int{0, 32}},
	} {
		if l := word.Bits(c.u); !slices.Equal(l, c.l) {
			t.Errorf("Bits(%#x) is %v", c.u, l)
		}
	}
	for _, u := range words() {
		var want []int
		for i := range 64 {
			if bit(u, i) {
				want = append(want, i)
			}
		}
		if l := word.Bits(u); !slices.Equal(l, want) {
			t.Errorf("Bits(%#x) is %v", u, l)
		}
	}
}

// R4: what is told is the caller's.
func TestBitsAreTheCallers(t *testing.T) {
	l := word.Bits(7)
	l[0] = 99
	_ = append(l[:1], 98, 97)
	if again := word.Bits(7); !slices.Equal(again, []int{0, 1, 2}) {
		t.Error(again)
	}
}

// R6: nothing is kept from call to call.
func TestAskedAgain(t *testing.T) {
	for _, u := range words() {
		first, _ := word.With(u, 8, 8, 0x5a)
		word.With(^u, 8, 80, 0x5a)
		word.With(^u, 0, 64, all)
		again, e := word.With(u, 8, 8, 0x5a)
		if again != first || e != api.Fine {
			t.Errorf("With of %#x: %#x, then %#x, %d", u, first, again, e)
		}
	}
}
