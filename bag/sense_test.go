package bag_test

import (
	"math"
	"reflect"
	"testing"

	"coachyard/api"
	"coachyard/bag"
)

// hadMoment goes by the chapter's words for one who was refused from f to t.
func hadMoment(l []api.Span, f, t int) bool {
	tasks := map[uint64]bool{}
	for _, s := range l {
		tasks[s.Call.Task] = true
	}
	there, waiting := 0, 0
	for task := range tasks {
		n := 0
		for _, s := range l {
			if isAdding(s) && s.To >= 0 && s.Call.Task == task && s.To < f {
				n++
			}
			if isTaking(s) && s.Result.V == task && s.From < t {
				n--
			}
		}
		there += max(n, 0)
	}
	for _, s := range l {
		if s.Call.Kind == api.Next && s.To < 0 && s.From < t {
			waiting++
		}
	}
	return there <= waiting
}

// senseByWords tells the place of the first one who hadn't, or -1.
func senseByWords(l []api.Span) int {
	for i, s := range l {
		if s.Call.Kind == api.Next && s.To >= 0 && s.Result.Code == api.Empty && !hadMoment(l, s.From, s.To) {
			return i
		}
	}
	return -1
}

// isSense looks that Sense tells that place.
func isSense(t *testing.T, want int, l ...api.Span) {
	t.Helper()
	was := deep(l)
	if at, ok := bag.Sense(l); at != want || ok != (want < 0) {
		t.Errorf("Sense is %d, %v instead of %d of %+v", at, ok, want, l)
	}
	if !reflect.DeepEqual(l, was) {
		t.Fatalf("%+v has come to be %+v", was, l)
	}
}

// P16.1

func TestSenseOfFew(t *testing.T) {
	isSense(t, -1)
	isSense(t, -1, refuse(0, 1))
	isSense(t, -1, add(5, 0, 1))
	isSense(t, 1, add(5, 0, 1), refuse(2, 3))
	isSense(t, 0, refuse(2, 3), add(5, 0, 1))
	isSense(t, -1, add(5, 0, 1), take(5, 2, 3), refuse(4, 5))
}

// Just addings count that ended, and whose To is below the From of who was refused.
func TestAddedAheadOfRefused(t *testing.T) {
	for _, from := range []int{math.MinInt, 0, 1, 2, 3, 7} {
		isSense(t, 1, add(5, from, 1), refuse(2, 6))
		isSense(t, -1, add(5, from, 2), refuse(2, 6))
		isSense(t, -1, add(5, from, 3), refuse(2, 6))
		isSense(t, -1, add(5, from, -1), refuse(2, 6))
		isSense(t, -1, with(add(5, from, 1), api.Full), refuse(2, 6))
	}
	isSense(t, 1, add(5, 0, 0), refuse(1, 6))
	isSense(t, -1, add(5, 0, 0), refuse(0, 6))
	isSense(t, -1, add(5, 0, 0), refuse(math.MinInt, 6))
	isSense(t, 1, add(5, 0, math.MaxInt-1), refuse(math.MaxInt, 0))
	isSense(t, -1, add(5, 0, math.MaxInt), refuse(math.MaxInt, math.MaxInt))
	isSense(t, -1, add(5, 0, math.MinInt), refuse(math.MaxInt, math.MaxInt))
}

// Takings count whose From is below the To of who was refused, whenever they end.
func TestTakenAheadOfEnd(t *testing.T) {
	for _, to := range []int{0, 3, 6, 99} {
		isSense(t, -1, add(5, 0, 1), take(5, 5, to), refuse(2, 6))
		isSense(t, 2, add(5, 0, 1), take(5, 6, to), refuse(2, 6))
		isSense(t, 2, add(5, 0, 1), take(5, 7, to), refuse(2, 6))
		isSense(t, 2, add(5, 0, 1), with(take(5, 3, to), api.Broken), refuse(2, 6))
	}
	isSense(t, -1, add(5, 0, 1), take(5, math.MinInt, 9), refuse(2, 0))
	isSense(t, 2, add(5, 0, 1), take(5, 0, 9), refuse(2, 0))
	isSense(t, 2, add(5, 0, 1), take(5, math.MaxInt, 9), refuse(2, math.MaxInt))
	isSense(t, -1, add(5, 0, 1), take(5, math.MaxInt-1, 9), refuse(2, math.MaxInt))
}

// More takings of a task than addings of it don't make up for another one.
func TestEachTaskByItself(t *testing.T) {
	isSense(t, 2, add(5, 0, 1), take(6, 2, 3), refuse(4, 5))
	isSense(t, 4, add(5, 0, 1), add(6, 0, 1), take(6, 2, 3), take(6, 2, 3), refuse(4, 5))
	isSense(t, -1, add(5, 0, 1), add(6, 0, 1), take(6, 2, 3), take(5, 2, 3), refuse(4, 5))
	isSense(t, 3, add(5, 0, 1), add(5, 0, 1), take(5, 2, 3), refuse(4, 5))
	isSense(t, -1, add(5, 0, 1), add(5, 0, 1), take(5, 2, 3), take(5, 2, 3), refuse(4, 5))
	isSense(t, 2, add(0, 0, 1), take(math.MaxUint64, 2, 3), refuse(4, 5))
	isSense(t, -1, add(math.MaxUint64, 0, 1), take(math.MaxUint64, 2, 3), refuse(4, 5))
}

// A waiting one whose From is below the To of who was refused may have taken any one task.
func TestWaitingOnes(t *testing.T) {
	isSense(t, -1, add(5, 0, 1), refuse(2, 6), wait(5))
	isSense(t, 1, add(5, 0, 1), refuse(2, 6), wait(6))
	isSense(t, 1, add(5, 0, 1), refuse(2, 6), wait(7))
	isSense(t, -1, add(5, 0, 1), refuse(2, 0), wait(-1))
	isSense(t, 1, add(5, 0, 1), refuse(2, 0), wait(0))
	isSense(t, -1, wait(math.MinInt), add(5, 0, 1), refuse(2, 6))
	isSense(t, -1, add(5, 0, 1), add(6, 0, 1), refuse(2, 6), wait(0), wait(1))
	isSense(t, 3, add(5, 0, 1), add(6, 0, 1), add(6, 0, 1), refuse(2, 6), wait(0), wait(1))
	isSense(t, 2, add(5, 0, 1), add(6, 0, 1), refuse(2, 6), wait(0), wait(6))
	for _, e := range []api.Code{api.Empty, api.Broken, -1} {
		for _, to := range []int{-1, -2, math.MinInt} {
			s := with(wait(3), e)
			s.To = to
			isSense(t, -1, add(5, 0, 1), refuse(2, 6), s)
		}
	}
	for _, kind := range []int{api.Submit, api.Park, 0, 4} {
		isSense(t, 1, add(5, 0, 1), refuse(2, 6), asked(wait(3), kind))
	}
}

func TestWhoIsRefused(t *testing.T) {
	isSense(t, 1, add(5, 0, 1), refuse(2, 0))
	for _, to := range []int{-1, -9, math.MinInt} {
		isSense(t, -1, add(5, 0, 1), refuse(2, to))
	}
	for _, e := range []api.Code{-1, api.Fine, api.Full, api.Abort, api.Idle, api.Broken} {
		isSense(t, -1, add(5, 0, 1), with(refuse(2, 3), e))
	}
	for _, kind := range []int{-1, 0, api.Submit, api.Park, 4} {
		isSense(t, -1, add(5, 0, 1), asked(refuse(2, 3), kind))
	}
}

// The first one is that with the least place, wherever it stands otherwise.
func TestFirstRefused(t *testing.T) {
	isSense(t, 1, add(5, 0, 1), refuse(7, 8), refuse(2, 3))
	isSense(t, 2, add(5, 0, 1), refuse(1, 3), refuse(9, 10), refuse(2, 3))
	isSense(t, 0, refuse(9, 10), add(5, 0, 1), refuse(2, 3))
	isSense(t, 3, add(5, 0, 1), take(5, 4, 6), refuse(2, 5), refuse(2, 4), refuse(2, 3))
}

// Sense asks nothing of Can, and Can nothing of Sense.
func TestSenseByItself(t *testing.T) {
	isSense(t, -1, take(5, 0, 1), refuse(2, 3))
	isSense(t, -1, take(5, 0, 9), add(5, 3, 4), refuse(5, 8))
	l := []api.Span{add(5, 0, 1), refuse(2, 3), take(5, 4, 5)}
	isSense(t, 1, l...)
	isOrder(t, l, []int{0, 2}, nil)
}

// An adding's task is the Call's, a taking's the Result's.
func TestWhatSenseLooksAt(t *testing.T) {
	a, b := add(5, 0, 1), take(5, 2, 3)
	a.Result.V, b.Call.Task, a.Who, b.Who = 6, 6, 4, 9
	isSense(t, -1, a, b, refuse(4, 5))
	isSense(t, 2, a, take(6, 2, 3), refuse(4, 5))
	isSense(t, 2, add(6, 2, 3), b, refuse(4, 5))
	c := refuse(4, 5)
	c.Call.Task, c.Result.V, c.Call.Victims, c.Result.L = 5, 5, []int{1}, []uint64{5}
	isSense(t, 1, add(5, 0, 1), c)
	isSense(t, -1, add(5, 0, 1), take(5, 2, 3), c)
}

func TestSenseOfEveryFew(t *testing.T) {
	spans := []api.Span{add(6, 0, 0), take(6, 1, 9), with(add(5, 0, 0), api.Full), refuse(1, 1), refuse(1, 3), refuse(2, 2), refuse(2, 3), refuse(2, 0)}
	for n := range 3 {
		spans = append(spans, add(5, 0, n), take(5, n, 9), wait(n))
	}
	full := 0
	everyList(spans, 5, func(l []api.Span) {
		want := senseByWords(l)
		if at, ok := bag.Sense(l); at != want || ok != (want < 0) {
			t.Fatalf("Sense is %d, %v instead of %d of %+v", at, ok, want, l)
		}
		if want < 0 {
			full++
		}
	})
	if full < 100000 {
		t.Errorf("just %d lists are full of sense", full)
	}
}

func TestSenseOfAnySpans(t *testing.T) {
	draw := drawn(17)
	full := 0
	for range 100000 {
		l := drawnSpans(draw, 16)
		want := senseByWords(l)
		if at, ok := bag.Sense(l); at != want || ok != (want < 0) {
			t.Fatalf("Sense is %d, %v instead of %d of %+v", at, ok, want, l)
		}
		if want < 0 {
			full++
		}
	}
	if full < 20000 || full > 95000 {
		t.Errorf("%d lists are full of sense", full)
	}
}
