package diary_test

import (
	"math"
	"reflect"
	"slices"
	"testing"

	"coachyard/api"
	"coachyard/diary"
)

func span(from, to int) api.Span {
	return api.Span{From: from, To: to}
}

// P15.2

func TestAhead(t *testing.T) {
	for _, c := range []struct {
		a, b api.Span
		want bool
	}{
		{span(0, 1), span(2, 3), true}, {span(0, 2), span(2, 3), false}, {span(0, 3), span(2, 5), false}, {span(2, 3), span(0, 1), false},
		{span(0, 0), span(1, -1), true}, {span(0, 1), span(2, -1), true}, {span(0, -1), span(2, 3), false}, {span(0, -1), span(2, -1), false},
		{span(0, math.MinInt), span(9, 9), false}, {span(0, -2), span(-1, 0), false}, {span(0, 0), span(-1, 0), false}, {span(0, 0), span(math.MinInt, 0), false},
		{span(0, math.MaxInt-1), span(math.MaxInt, 0), true}, {span(0, math.MaxInt), span(math.MaxInt, 0), false},
		{span(5, 2), span(3, 1), true}, {span(-3, 2), span(3, -3), true}, {span(math.MinInt, 0), span(math.MaxInt, 0), true},
	} {
		if got := diary.Ahead(c.a, c.b); got != c.want {
			t.Errorf("Ahead is %v of %+v and %+v", got, c.a, c.b)
		}
	}
}

// Whose they are, and what was asked and answered, plays no part.
func TestAheadGoesByPlaces(t *testing.T) {
	a := api.Span{Who: 9, Nth: 4, From: 5, To: 6, Call: submit(3), Result: api.Result{Code: api.Full, V: 1}}
	b := api.Span{Who: -9, Nth: 1, From: 7, To: 9, Call: next(1), Result: api.Result{L: []uint64{1}}}
	if !diary.Ahead(a, b) || diary.Ahead(b, a) || diary.Ahead(a, a) {
		t.Error("Ahead goes by other things")
	}
}

func TestOpen(t *testing.T) {
	for _, c := range []struct {
		l    []api.Span
		want int
	}{
		{nil, 0}, {[]api.Span{}, 0}, {[]api.Span{span(0, 1)}, 0}, {[]api.Span{span(0, 0)}, 0}, {[]api.Span{span(0, -1)}, 1},
		{[]api.Span{span(0, -1), span(1, 2), span(3, -2), span(-1, math.MinInt), span(-1, math.MaxInt), span(4, 2)}, 3},
	} {
		if n := diary.Open(c.l); n != c.want {
			t.Errorf("Open is %d of %+v", n, c.l)
		}
	}
}

func TestMost(t *testing.T) {
	for _, c := range []struct {
		l    []api.Span
		want int
	}{
		{nil, 0}, {[]api.Span{}, 0}, {[]api.Span{span(0, 0)}, 1}, {[]api.Span{span(0, -1)}, 1},
		{[]api.Span{span(-1, 5)}, 0}, {[]api.Span{span(-1, -1)}, 0}, {[]api.Span{span(4, 3)}, 0}, {[]api.Span{span(4, 0)}, 0}, {[]api.Span{span(4, 4)}, 1},
		{[]api.Span{span(0, 2), span(1, -1)}, 2}, {[]api.Span{span(0, 3), span(3, 5)}, 2}, {[]api.Span{span(0, 3), span(4, 5)}, 1},
		{[]api.Span{span(4, 5), span(3, 5), span(0, 4)}, 3}, {[]api.Span{span(0, 9), span(1, 2), span(3, 4), span(5, 6)}, 2},
		{[]api.Span{span(7, -1), span(0, math.MinInt), span(3, -4)}, 3},
		{[]api.Span{span(math.MaxInt, math.MaxInt), span(0, math.MaxInt), span(math.MaxInt, -1), span(math.MinInt, math.MaxInt)}, 3},
		{[]api.Span{span(0, math.MaxInt-1), span(math.MaxInt, -1)}, 1},
		{[]api.Span{span(math.MaxInt, 0), span(math.MinInt, math.MinInt)}, 0},
		{[]api.Span{span(2, 2), span(2, 2), span(2, 2), span(2, 1)}, 3},
	} {
		was := slices.Clone(c.l)
		if n := diary.Most(c.l); n != c.want {
			t.Errorf("Most is %d of %+v", n, c.l)
		}
		if !reflect.DeepEqual(c.l, was) {
			t.Errorf("%+v has come to be %+v", was, c.l)
		}
	}
}

// mostByWords counts at each place up to last.
func mostByWords(l []api.Span, last int) int {
	most := 0
	for place := range last + 1 {
		n := 0
		for _, s := range l {
			if s.From >= 0 && s.From <= place && (s.To < 0 || place <= s.To) {
				n++
			}
		}
		most = max(most, n)
	}
	return most
}

func TestMostOfEveryFew(t *testing.T) {
	const last = 3
	var kinds []api.Span
	for from := -1; from <= last; from++ {
		for to := -1; to <= last; to++ {
			kinds = append(kinds, span(from, to))
		}
	}
	list := make([]api.Span, 4)
	var grow func(n int)
	grow = func(n int) {
		if got, want := diary.Most(list[:n]), mostByWords(list[:n], last); got != want {
			t.Fatalf("Most is %d of %+v", got, list[:n])
		}
		for _, s := range kinds {
			if n < len(list) {
				list[n] = s
				grow(n + 1)
			}
		}
	}
	grow(0)
}

func TestMostOfMany(t *testing.T) {
	draw := drawn(17)
	for range 200 {
		var l []api.Span
		for range draw(60) {
			l = append(l, span(draw(40)-1, draw(40)-1))
		}
		if got, want := diary.Most(l), mostByWords(l, 40); got != want {
			t.Fatalf("Most is %d of %+v", got, l)
		}
	}
	// One begins at each place, and stays for a thousand.
	var l []api.Span
	for i := range 200000 {
		l = append(l, span(199999-i, 199999-i+999))
	}
	if n := diary.Most(l); n != 1000 {
		t.Errorf("Most is %d", n)
	}
}

// A diary's workers have one call under way each, at most.
func TestMostOfDiary(t *testing.T) {
	l, _ := long(20000)
	if n := diary.Most(isRight(t, l)); n < 10 || n > api.MaxWorkers {
		t.Errorf("Most is %d", n)
	}
}

func TestOf(t *testing.T) {
	l := isRight(t, some())
	for _, c := range []struct {
		who    int
		places []int
	}{
		{3, []int{0, 2}}, {0, []int{1}}, {15, []int{3, 4}}, {1, nil}, {-1, nil}, {16, nil}, {math.MaxInt, nil}, {math.MinInt, nil},
	} {
		own := diary.Of(l, c.who)
		if len(own) != len(c.places) {
			t.Errorf("of %d there are %+v", c.who, own)
			continue
		}
		for i, place := range c.places {
			if !reflect.DeepEqual(own[i], l[place]) {
				t.Errorf("of %d there are %+v", c.who, own)
			}
		}
	}
	if !reflect.DeepEqual(l, isRight(t, some())) {
		t.Errorf("the spans have come to be %+v", l)
	}
}

// Of asks nothing of spans but whose they are, and keeps them in their order.
func TestOfAnySpans(t *testing.T) {
	l := []api.Span{
		{Who: -1, Nth: 5, From: 9, To: 2}, {Who: 99, Nth: -3}, {Who: -1, Nth: 5, From: 9, To: 2},
		{Who: -1, Nth: 1, From: -7, To: -9, Result: api.Result{Code: -1}}, {Who: math.MaxInt},
	}
	if own := diary.Of(l, -1); !reflect.DeepEqual(own, []api.Span{l[0], l[2], l[3]}) {
		t.Errorf("of -1 there are %+v", own)
	}
	if own := diary.Of(l, 99); !reflect.DeepEqual(own, l[1:2]) {
		t.Errorf("of 99 there are %+v", own)
	}
	if own := diary.Of(l, math.MaxInt); !reflect.DeepEqual(own, l[4:]) {
		t.Errorf("of the last one there are %+v", own)
	}
	for _, none := range [][]api.Span{nil, {}} {
		if own := diary.Of(none, 0); len(own) != 0 {
			t.Errorf("of nothing there are %+v", own)
		}
	}
}

func TestOfIsNew(t *testing.T) {
	c, r := next(1, 2), api.Result{L: []uint64{3, 4}}
	l := []api.Span{{Who: 1, Call: c, Result: r}, {Who: 1, Call: c, Result: r}}
	own := diary.Of(l, 1)
	if len(own) != 2 {
		t.Fatalf("there are %+v", own)
	}
	own[0].Nth, own[0].Call.Victims[0], own[0].Result.L[0] = 7, 7, 7
	if l[0].Nth != 0 || c.Victims[0] != 1 || r.L[0] != 3 || own[1].Call.Victims[0] != 1 || own[1].Result.L[0] != 3 {
		t.Error("a span shares its lists")
	}
}
