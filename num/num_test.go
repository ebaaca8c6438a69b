package num_test

import (
	"math"
	"slices"
	"strings"
	"testing"

	"coachyard/api"
	"coachyard/num"
)

const most = math.MaxUint64

// numbers are ones at and beside the places where a text gets longer, and where a word's bits end.
func numbers() []uint64 {
	l := []uint64{0, 1, 7, 9, 120, 1<<31 - 1, 1 << 31, 1<<32 - 1, 1 << 32, 1<<53 + 1, 1<<63 - 1, 1 << 63,
		0x0123456789abcdef, most - 6, most - 5, most - 1, most}
	for p, i := uint64(1), 0; i < 19; i++ {
		p *= 10
		l = append(l, p-1, p, p+1)
	}
	return l
}

// digits is u's text, made from its end.
func digits(u uint64) string {
	s := ""
	for {
		s = string(rune('0'+u%10)) + s
		u /= 10
		if u == 0 {
			return s
		}
	}
}

// P2.1

func TestPrint(t *testing.T) {
	for _, c := range []struct {
		u uint64
		s string
	}{
		{0, "0"}, {1, "1"}, {9, "9"}, {10, "10"}, {120, "120"}, {4294967296, "4294967296"},
		{9999999999999999999, "9999999999999999999"}, {10000000000000000000, "10000000000000000000"}, {most, "18446744073709551615"},
	} {
		if s := num.Print(c.u); s != c.s {
			t.Errorf("Print(%d) is %q", c.u, s)
		}
	}
	for _, u := range numbers() {
		if s := num.Print(u); s != digits(u) {
			t.Errorf("Print(%d) is %q", u, s)
		}
	}
}

func TestRead(t *testing.T) {
	for _, u := range numbers() {
		if v, e := num.Read(digits(u)); v != u || e != api.Fine {
			t.Errorf("Read(%q) is %d, %d", digits(u), v, e)
		}
	}
}

// Of every byte beside the digits, wherever it stands, it tells Word and no number (R2).
func TestReadStrangeBytes(t *testing.T) {
	for b := range 256 {
		strange := string([]byte{byte(b)})
		for _, s := range []string{strange, strange + "12", "1" + strange + "2", "12" + strange} {
			v, e := num.Read(s)
			if '0' <= b && b <= '9' {
				if strange != "0" && e != api.Fine {
					t.Errorf("Read(%q) tells %d", s, e)
				}
				continue
			}
			if v != 0 || e != api.Word {
				t.Errorf("Read(%q) is %d, %d", s, v, e)
			}
		}
	}
}

func TestReadWord(t *testing.T) {
	for _, s := range []string{"", "00", "01", "007", "000000000000000000000000", "018446744073709551615", "018446744073709551616",
		"-", "-0", "-1", "+1", " 1", "1 ", "1 2", "1,2", "1_000", "1.0", "1e3", "0x1", "0b1", "0o7", "x", "Inf", "1\n", "\x001", "1\x00",
		"\u0663", "\uff11", "1\u0663", "\u00b2", "1\u00b2", "\ufffd", "\xff", "1\xff", "\xd9", "1\xd9", "\xc0\xb1", "\U0001d7d9"} {
		if v, e := num.Read(s); v != 0 || e != api.Word {
			t.Errorf("Read(%q) is %d, %d, not Word", s, v, e)
		}
	}
}

func TestReadLong(t *testing.T) {
	for _, s := range []string{"18446744073709551616", "18446744073709551617", "18446744073709551620", "18446744073709551700", "18446744073709552000",
		"19000000000000000000", "20000000000000000000", "27670116110564327424", "36893488147419103232", "99999999999999999999",
		"100000000000000000000", "184467440737095516150", "184467440737095516160", "340282366920938463463374607431768211456",
		strings.Repeat("9", 1000), "1" + strings.Repeat("0", 64), "1" + strings.Repeat("0", 5000)} {
		if v, e := num.Read(s); v != 0 || e != api.Long {
			t.Errorf("Read(%q) is %d, %d, not Long", s, v, e)
		}
	}
}

// Word comes ahead of Long (R2), however far behind the strange byte stands.
func TestReadWordAheadOfLong(t *testing.T) {
	for _, s := range []string{"99999999999999999999x", "x99999999999999999999", "99999999999999999999 ", "0" + strings.Repeat("9", 30),
		"-18446744073709551616", "18446744073709551616\u0663", strings.Repeat("9", 1000) + "\xff"} {
		if v, e := num.Read(s); v != 0 || e != api.Word {
			t.Errorf("Read(%q) is %d, %d, not Word", s, v, e)
		}
	}
}

// P2.2

func TestList(t *testing.T) {
	for _, c := range []struct {
		l []uint64
		s string
	}{
		{nil, "-"}, {[]uint64{}, "-"}, {[]uint64{0}, "0"}, {[]uint64{0, 0}, "0,0"}, {[]uint64{1, 20}, "1,20"},
		{[]uint64{7, 0, most}, "7,0,18446744073709551615"}, {[]uint64{3, 2, 1, 1}, "3,2,1,1"},
	} {
		if s := num.List(c.l); s != c.s {
			t.Errorf("List(%d) is %q, not %q", c.l, s, c.s)
		}
	}
	var texts []string
	for _, u := range numbers() {
		texts = append(texts, digits(u))
	}
	if s := num.List(numbers()); s != strings.Join(texts, ",") {
		t.Error(s)
	}
}

func TestWords(t *testing.T) {
	for _, c := range []struct {
		s string
		l []string
	}{
		{"", nil}, {" ", nil}, {"     ", nil}, {"a", []string{"a"}}, {" a", []string{"a"}}, {"a ", []string{"a"}},
		{"submit 0 5", []string{"submit", "0", "5"}}, {"  b  a   b ", []string{"b", "a", "b"}},
		{"  a bc\td   e ", []string{"a", "bc\td", "e"}},
		{"\t", []string{"\t"}}, {"\n \r \v \f", []string{"\n", "\r", "\v", "\f"}}, {"a\nb", []string{"a\nb"}},
		{"\x00 \xff\xfe  \u00e9", []string{"\x00", "\xff\xfe", "\u00e9"}},
		{"a\u00a0b \u3000 \u2003 \u0085", []string{"a\u00a0b", "\u3000", "\u2003", "\u0085"}},
		{"1,2 -", []string{"1,2", "-"}},
	} {
		if l := num.Words(c.s); !slices.Equal(l, c.l) {
			t.Errorf("Words(%q) is %q, not %q", c.s, l, c.l)
		}
	}
}

// wordsByBytes goes through s byte by byte.
func wordsByBytes(s string) []string {
	var l []string
	word := ""
	for i := range len(s) {
		if s[i] != 32 {
			word += s[i : i+1]
		} else if word != "" {
			l = append(l, word)
			word = ""
		}
	}
	if word != "" {
		l = append(l, word)
	}
	return l
}

// Of all texts of up to seven of these bytes (two of them a rune, if they stand so).
func TestWordsOfAllShortTexts(t *testing.T) {
	texts := []string{""}
	for ahead := 0; len(texts[ahead]) < 7; ahead++ {
		for _, b := range []byte{32, 'a', 9, 0xc2, 0xa0} {
			texts = append(texts, texts[ahead]+string([]byte{b}))
		}
	}
	for _, s := range texts {
		if l := num.Words(s); !slices.Equal(l, wordsByBytes(s)) {
			t.Fatalf("Words(%q) is %q", s, l)
		}
	}
}

func TestManyWords(t *testing.T) {
	l := num.Words(strings.Repeat(" ab  c", 10000))
	if len(l) != 20000 || l[0] != "ab" || l[19999] != "c" {
		t.Error(len(l))
	}
}

// P2.3

func TestPrintedIsRead(t *testing.T) {
	for _, u := range numbers() {
		if v, e := num.Read(num.Print(u)); v != u || e != api.Fine {
			t.Errorf("%d, printed and read, is %d, %d", u, v, e)
		}
	}
	for i := range 64 {
		for _, u := range []uint64{1 << i, 1<<i - 1, most << i} {
			if v, e := num.Read(num.Print(u)); v != u || e != api.Fine {
				t.Errorf("%d, printed and read, is %d, %d", u, v, e)
			}
		}
	}
}

// Of all texts of up to five of these bytes: what is read is printed as it was.
func TestReadIsPrinted(t *testing.T) {
	texts, read := []string{""}, 0
	for ahead := 0; ahead < len(texts); ahead++ {
		s := texts[ahead]
		if len(s) < 5 {
			for _, b := range "0159 -,x" {
				texts = append(texts, s+string(b))
			}
		}
		u, e := num.Read(s)
		if e != api.Fine {
			continue
		}
		read++
		if num.Print(u) != s {
			t.Errorf("%q, read and printed, is %q", s, num.Print(u))
		}
	}
	// 0, and the texts of one to five of four digits, of which the first is no 0.
	if read != 1+3*(1+4+16+64+256) {
		t.Error(read, "were read")
	}
}

// A list's text, parted at its commas, is its numbers again.
func TestListIsReadByItsParts(t *testing.T) {
	for n := 1; n <= len(numbers()); n++ {
		l := numbers()[:n]
		parts := strings.Split(num.List(l), ",")
		if len(parts) != n {
			t.Fatalf("%d parts of %d", len(parts), n)
		}
		for i, part := range parts {
			if v, e := num.Read(part); v != l[i] || e != api.Fine {
				t.Errorf("the part %d is %d, %d", i, v, e)
			}
		}
	}
}

// R4: what is handed in stays as it is, and what is told is the caller's.
func TestListsAreTheCallers(t *testing.T) {
	l := numbers()
	num.List(l[:5])
	if !slices.Equal(l, numbers()) {
		t.Error("List changed its numbers")
	}
	first := num.Words("a b c")
	first[0] = "x"
	_ = append(first[:1], "y", "z")
	if again := num.Words("a b c"); !slices.Equal(again, []string{"a", "b", "c"}) {
		t.Error(again)
	}
}
