package diary_test

import (
	"math"
	"reflect"
	"slices"
	"testing"

	"coachyard/api"
	"coachyard/diary"
)

func submit(task uint64) api.Call {
	return api.Call{Kind: api.Submit, Task: task}
}

func next(victims ...int) api.Call {
	return api.Call{Kind: api.Next, Victims: victims}
}

func begins(step, who, nth int, c api.Call) api.Event {
	return api.Event{Step: step, Who: who, Nth: nth, Call: c}
}

func ends(step, who, nth int, c api.Call, r api.Result) api.Event {
	return api.Event{Step: step, Who: who, Nth: nth, Ends: true, Call: c, Result: r}
}

// deep is a copy of l that shares no list with it.
func deep(l []api.Event) []api.Event {
	c := slices.Clone(l)
	for i := range c {
		c[i].Call.Victims = slices.Clone(c[i].Call.Victims)
		c[i].Result.L = slices.Clone(c[i].Result.L)
	}
	return c
}

// drawn tells a function that tells numbers below n, as if by chance, but the same ones each time.
func drawn(seed uint64) func(n int) int {
	return func(n int) int {
		seed = seed*6364136223846793005 + 1442695040888963407
		return int(seed>>33) % n
	}
}

// isRight holds l for right, and looks that nothing of it was changed.
func isRight(t *testing.T, l []api.Event) []api.Span {
	t.Helper()
	was := deep(l)
	if !diary.Right(l) {
		t.Fatalf("it isn't right: %+v", l)
	}
	spans, e := diary.Spans(l)
	if e != api.Fine {
		t.Fatalf("Spans tells %d of %+v", e, l)
	}
	if !reflect.DeepEqual(l, was) {
		t.Fatalf("%+v has come to be %+v", was, l)
	}
	return spans
}

func isWrong(t *testing.T, l []api.Event) {
	t.Helper()
	was := deep(l)
	if diary.Right(l) {
		t.Errorf("it is right: %+v", l)
	}
	if spans, e := diary.Spans(l); len(spans) != 0 || e != api.Form {
		t.Errorf("Spans is %+v, %d of %+v", spans, e, l)
	}
	if !reflect.DeepEqual(l, was) {
		t.Fatalf("%+v has come to be %+v", was, l)
	}
}

// some is a diary of three workers, one of whom hasn't ended.
func some() []api.Event {
	return []api.Event{
		begins(0, 3, 0, submit(7)),
		begins(0, 0, 0, next(3, 1)),
		ends(4, 3, 0, submit(7), api.Result{V: 1, L: []uint64{5, 6}}),
		begins(4, 3, 1, api.Call{Kind: api.Park}),
		begins(6, 15, 0, next()),
		ends(6, 15, 0, next(), api.Result{Code: api.Empty}),
		ends(9, 0, 0, next(3, 1), api.Result{V: 7}),
		begins(9, 15, 1, submit(8)),
		ends(9, 15, 1, submit(8), api.Result{}),
	}
}

// P15.1

func TestSpans(t *testing.T) {
	want := []api.Span{
		{Who: 3, Nth: 0, From: 0, To: 2, Call: submit(7), Result: api.Result{V: 1, L: []uint64{5, 6}}},
		{Who: 0, Nth: 0, From: 1, To: 6, Call: next(3, 1), Result: api.Result{V: 7}},
		{Who: 3, Nth: 1, From: 3, To: -1, Call: api.Call{Kind: api.Park}},
		{Who: 15, Nth: 0, From: 4, To: 5, Call: next(), Result: api.Result{Code: api.Empty}},
		{Who: 15, Nth: 1, From: 7, To: 8, Call: submit(8)},
	}
	if spans := isRight(t, some()); !reflect.DeepEqual(spans, want) {
		t.Errorf("Spans is %+v", spans)
	}
}

func TestSpansOfExample(t *testing.T) {
	spans := isRight(t, []api.Event{begins(0, 0, 0, next()), begins(0, 1, 0, next()), ends(3, 0, 0, next(), api.Result{})})
	if len(spans) != 2 || spans[0].From != 0 || spans[0].To != 2 || spans[1].From != 1 || spans[1].To != -1 {
		t.Errorf("Spans is %+v", spans)
	}
	if n := diary.Most(spans); n != 2 {
		t.Errorf("Most is %d", n)
	}
}

func TestNoEvents(t *testing.T) {
	for _, l := range [][]api.Event{nil, {}} {
		if spans := isRight(t, l); len(spans) != 0 {
			t.Errorf("Spans is %+v", spans)
		}
	}
}

func TestWhoThereIs(t *testing.T) {
	for who := range api.MaxWorkers {
		l := []api.Event{begins(0, who, 0, next()), ends(0, who, 0, next(), api.Result{})}
		if spans := isRight(t, l); len(spans) != 1 || spans[0].Who != who || spans[0].To != 1 {
			t.Errorf("Spans is %+v", spans)
		}
	}
	for _, who := range []int{-1, api.MaxWorkers, api.MaxWorkers + 1, math.MinInt, math.MaxInt} {
		isWrong(t, []api.Event{begins(0, who, 0, next())})
		isWrong(t, []api.Event{ends(0, who, 0, next(), api.Result{})})
		isWrong(t, append(some(), begins(9, who, 0, next())))
	}
}

func TestSteps(t *testing.T) {
	at := func(steps ...int) []api.Event {
		var l []api.Event
		for who, step := range steps {
			l = append(l, begins(step, who, 0, next()))
		}
		return l
	}
	for _, steps := range [][]int{{0}, {5}, {math.MaxInt}, {0, 0}, {3, 3, 4}, {0, math.MaxInt, math.MaxInt}} {
		isRight(t, at(steps...))
	}
	for _, steps := range [][]int{{-1}, {math.MinInt}, {-1, 0}, {0, -1}, {1, 0}, {4, 4, 3}, {4, 6, 5}, {0, 5, 6, 4, 8}, {math.MaxInt, math.MinInt}} {
		isWrong(t, at(steps...))
	}
	isWrong(t, []api.Event{begins(3, 0, 0, next()), ends(2, 0, 0, next(), api.Result{})})
	isRight(t, []api.Event{begins(3, 0, 0, next()), ends(3, 0, 0, next(), api.Result{})})
}

func TestOrderOfWorkersEvents(t *testing.T) {
	b := func(nth int) api.Event { return begins(0, 2, nth, next()) }
	e := func(nth int) api.Event { return ends(0, 2, nth, next(), api.Result{}) }
	for _, l := range [][]api.Event{
		{b(1)}, {b(-1)}, {b(math.MinInt)}, {b(math.MaxInt)}, {e(0)}, {e(-1)}, {e(1)},
		{b(0), b(0)}, {b(0), b(1)}, {b(0), e(1)}, {b(0), e(-1)},
		{b(0), e(0), b(0)}, {b(0), e(0), b(2)}, {b(0), e(0), e(0)}, {b(0), e(0), e(1)},
		{b(0), e(0), b(1), e(0)}, {b(0), e(0), b(1), e(2)}, {b(0), e(0), b(1), e(1), e(1)},
	} {
		isWrong(t, l)
	}
	isRight(t, []api.Event{b(0), e(0), b(1), e(1), b(2)})
}

// It tells how many calls each worker began by itself: others' calls don't count.
func TestWorkersCountByThemselves(t *testing.T) {
	l := []api.Event{begins(0, 1, 0, next()), begins(0, 2, 0, next()), ends(0, 1, 0, next(), api.Result{})}
	isRight(t, append(slices.Clone(l), begins(0, 1, 1, next())))
	isRight(t, append(slices.Clone(l), ends(0, 2, 0, next(), api.Result{})))
	isWrong(t, append(slices.Clone(l), begins(0, 1, 2, next())))
	isWrong(t, append(slices.Clone(l), begins(0, 2, 1, next())))
	isWrong(t, append(slices.Clone(l), ends(0, 3, 0, next(), api.Result{})))
}

func TestResultOfBeginning(t *testing.T) {
	for _, r := range []api.Result{{Code: api.Empty}, {Code: -1}, {V: 1}, {V: math.MaxUint64}, {L: []uint64{0}}} {
		event := begins(0, 0, 0, next())
		event.Result = r
		isWrong(t, []api.Event{event})
	}
	event := begins(0, 0, 0, next())
	event.Result.L = []uint64{}
	isRight(t, []api.Event{event})
}

func TestResultOfEnd(t *testing.T) {
	for _, r := range []api.Result{{}, {Code: api.Lost, V: 3}, {Code: -7}, {Code: 99}, {V: math.MaxUint64}, {L: []uint64{1, 0, 2}}} {
		spans := isRight(t, []api.Event{begins(0, 0, 0, next()), ends(1, 0, 0, next(), r)})
		if len(spans) != 1 || !reflect.DeepEqual(spans[0].Result, r) {
			t.Errorf("Spans is %+v", spans)
		}
	}
}

func TestCallOfEnd(t *testing.T) {
	play := func(a, b api.Call) []api.Event {
		return []api.Event{begins(0, 4, 0, a), ends(0, 4, 0, b, api.Result{})}
	}
	whole := api.Call{Kind: api.Next, Task: 9, Victims: []int{2, 3}}
	for _, other := range []api.Call{
		{}, {Kind: api.Park, Task: 9, Victims: []int{2, 3}}, {Kind: api.Next, Task: 8, Victims: []int{2, 3}},
		{Kind: api.Next, Task: 9}, {Kind: api.Next, Task: 9, Victims: []int{2}}, {Kind: api.Next, Task: 9, Victims: []int{3, 2}},
		{Kind: api.Next, Task: 9, Victims: []int{2, 4}}, {Kind: api.Next, Task: 9, Victims: []int{2, 3, 3}},
	} {
		isWrong(t, play(whole, other))
		isWrong(t, play(other, whole))
		isRight(t, play(other, other))
	}
	isRight(t, play(next(), api.Call{Kind: api.Next, Victims: []int{}}))
	isRight(t, play(api.Call{Kind: api.Next, Victims: []int{}}, next()))
}

// What is asked plays no part, but that the end has it too.
func TestCallsOfAnyKind(t *testing.T) {
	for _, c := range []api.Call{{}, {Kind: -1}, {Kind: math.MaxInt, Task: math.MaxUint64}, {Kind: api.Submit, Victims: []int{-4, 99}}} {
		spans := isRight(t, []api.Event{begins(0, 0, 0, c), ends(1, 0, 0, c, api.Result{})})
		if len(spans) != 1 || !reflect.DeepEqual(spans[0].Call, c) {
			t.Errorf("Spans is %+v", spans)
		}
	}
}

// isRightByWords goes by the chapter's words, worker by worker.
func isRightByWords(l []api.Event) bool {
	own := map[int][]api.Event{}
	for i, event := range l {
		if event.Step < 0 || i > 0 && event.Step < l[i-1].Step || event.Who < 0 || event.Who > 15 {
			return false
		}
		own[event.Who] = append(own[event.Who], event)
	}
	for _, events := range own {
		for i, event := range events {
			if event.Nth != i/2 || event.Ends != (i%2 == 1) {
				return false
			}
			if !event.Ends && !reflect.DeepEqual(event.Result, api.Result{}) || event.Ends && !reflect.DeepEqual(event.Call, events[i-1].Call) {
				return false
			}
		}
	}
	return true
}

// spansByWords goes by the chapter's words, beginning by beginning.
func spansByWords(l []api.Event) []api.Span {
	var spans []api.Span
	for from, event := range l {
		if event.Ends {
			continue
		}
		s := api.Span{Who: event.Who, Nth: event.Nth, From: from, To: -1, Call: event.Call}
		for to, other := range l {
			if other.Ends && other.Who == s.Who && other.Nth == s.Nth {
				s.To, s.Result = to, other.Result
			}
		}
		spans = append(spans, s)
	}
	return spans
}

// everyList calls look of all lists of up to most events of those.
func everyList(events []api.Event, most int, look func([]api.Event)) {
	list := make([]api.Event, 0, most)
	var grow func()
	grow = func() {
		look(list)
		if len(list) == most {
			return
		}
		for _, event := range events {
			list = append(list, event)
			grow()
			list = list[:len(list)-1]
		}
	}
	grow()
}

// isByWords tells whether l is right, as all calls and the chapter's words say alike.
func isByWords(t *testing.T, l []api.Event) bool {
	t.Helper()
	want := isRightByWords(l)
	if diary.Right(l) != want {
		t.Fatalf("Right is %v of %+v", !want, l)
	}
	spans, e := diary.Spans(l)
	if want && (e != api.Fine || !reflect.DeepEqual(spans, spansByWords(l))) || !want && (e != api.Form || len(spans) != 0) {
		t.Fatalf("Spans is %+v, %d of %+v", spans, e, l)
	}
	return want
}

func TestEveryOrder(t *testing.T) {
	var events []api.Event
	for who := range 2 {
		for nth := range 2 {
			events = append(events, begins(0, who, nth, next()), ends(0, who, nth, next(), api.Result{V: uint64(2*who + nth)}))
		}
	}
	right := 0
	everyList(events, 6, func(l []api.Event) {
		if isByWords(t, l) {
			right++
		}
	})
	// Of two workers' first four events each, kept in order: as many as there are ways to lay a of the one's among b of the other one's, for all a + b up to 6.
	if right != 1+2+4+8+16+30+50 {
		t.Errorf("%d lists are right", right)
	}
}

func TestEveryField(t *testing.T) {
	var events []api.Event
	for _, step := range []int{-1, 0, 1} {
		for _, who := range []int{-1, 15, 16} {
			for _, ends := range []bool{false, true} {
				for _, c := range []api.Call{submit(1), submit(2)} {
					for v := range uint64(2) {
						events = append(events, api.Event{Step: step, Who: who, Ends: ends, Call: c, Result: api.Result{V: v}})
					}
				}
			}
		}
	}
	right := 0
	everyList(events, 2, func(l []api.Event) {
		if isByWords(t, l) {
			right++
		}
	})
	// None; two steps of two calls; and ends of either result at a step that isn't below.
	if right != 1+4+3*2*2 {
		t.Errorf("%d lists are right", right)
	}
}

// long is a right diary of n events of all workers, and the spans that it tells of.
func long(n int) ([]api.Event, []api.Span) {
	draw := drawn(15)
	var l []api.Event
	var spans []api.Span
	open := map[int]int{}
	begun := map[int]int{}
	step := 0
	for place := range n {
		step += draw(3)
		who := draw(api.MaxWorkers)
		if i, ok := open[who]; ok {
			s := &spans[i]
			s.To, s.Result = place, api.Result{Code: api.Code(draw(3)), V: uint64(draw(100))}
			l = append(l, ends(step, who, s.Nth, s.Call, s.Result))
			delete(open, who)
			continue
		}
		c := next(draw(9), draw(9))
		l = append(l, begins(step, who, begun[who], c))
		open[who] = len(spans)
		spans = append(spans, api.Span{Who: who, Nth: begun[who], From: place, To: -1, Call: c})
		begun[who]++
	}
	return l, spans
}

func TestLongDiary(t *testing.T) {
	l, want := long(50000)
	if spans := isRight(t, l); !reflect.DeepEqual(spans, want) {
		t.Error("the spans are other ones")
	}
	draw := drawn(16)
	for range 50 {
		place := draw(len(l))
		for _, spoil := range []func(*api.Event){
			func(event *api.Event) { event.Nth++ },
			func(event *api.Event) { event.Nth-- },
			func(event *api.Event) { event.Ends = !event.Ends },
			func(event *api.Event) { event.Step = -1 },
			func(event *api.Event) { event.Who += api.MaxWorkers },
		} {
			was := l[place]
			spoil(&l[place])
			if spans, e := diary.Spans(l); diary.Right(l) || len(spans) != 0 || e != api.Form {
				t.Fatalf("%+v at %d is right instead of %+v", l[place], place, was)
			}
			l[place] = was
		}
	}
}

// What is told is the caller's, and what was handed in stays as it is (R4).
func TestSpansAreNew(t *testing.T) {
	victims := []int{1, 2}
	told := []uint64{3, 4}
	c := next(victims...)
	c.Victims = victims
	l := []api.Event{
		begins(0, 0, 0, c), ends(0, 0, 0, c, api.Result{L: told}),
		begins(0, 0, 1, c), ends(0, 0, 1, c, api.Result{L: told}),
	}
	spans, e := diary.Spans(l)
	if e != api.Fine || len(spans) != 2 {
		t.Fatalf("Spans is %+v, %d", spans, e)
	}
	spans[0].Call.Victims[0], spans[0].Result.L[0] = 7, 7
	if victims[0] != 1 || told[0] != 3 || spans[1].Call.Victims[0] != 1 || spans[1].Result.L[0] != 3 {
		t.Error("a span shares its lists")
	}
	victims[1], told[1] = 8, 8
	if spans[0].Call.Victims[1] != 2 || spans[1].Call.Victims[1] != 2 || spans[0].Result.L[1] != 4 || spans[1].Result.L[1] != 4 {
		t.Error("a span shares its lists with the events")
	}
}
