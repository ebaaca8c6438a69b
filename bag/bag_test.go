package bag_test

import (
	"cmp"
	"math"
	"reflect"
	"slices"
	"testing"

	"coachyard/api"
	"coachyard/bag"
)

func add(task uint64, from, to int) api.Span {
	return api.Span{From: from, To: to, Call: api.Call{Kind: api.Submit, Task: task}}
}

func take(task uint64, from, to int) api.Span {
	return api.Span{From: from, To: to, Call: api.Call{Kind: api.Next}, Result: api.Result{V: task}}
}

func refuse(from, to int) api.Span {
	return api.Span{From: from, To: to, Call: api.Call{Kind: api.Next}, Result: api.Result{Code: api.Empty}}
}

func wait(from int) api.Span {
	return api.Span{From: from, To: -1, Call: api.Call{Kind: api.Next}}
}

// with is s with another code.
func with(s api.Span, e api.Code) api.Span {
	s.Result.Code = e
	return s
}

// asked is s of another kind.
func asked(s api.Span, kind int) api.Span {
	s.Call.Kind = kind
	return s
}

// deep is a copy of l that shares no list with it.
func deep(l []api.Span) []api.Span {
	c := slices.Clone(l)
	for i := range c {
		c[i].Call.Victims = slices.Clone(c[i].Call.Victims)
		c[i].Result.L = slices.Clone(c[i].Result.L)
	}
	return c
}

// drawn tells a function that tells numbers below n, as if by chance, but the same ones each time.
func drawn(seed uint64) func(n int) int {
	return func(n int) int {
		seed = seed*6364136223846793005 + 1442695040888963407
		return int(seed>>33) % n
	}
}

func isAdding(s api.Span) bool {
	return s.Call.Kind == api.Submit && (s.To < 0 || s.Result.Code == api.Fine)
}

func isTaking(s api.Span) bool {
	return s.Call.Kind == api.Next && s.To >= 0 && s.Result.Code == api.Fine
}

// canByWords tries every giving.
func canByWords(l []api.Span) bool {
	given := make([]bool, len(l))
	var give func(place int) bool
	give = func(place int) bool {
		if place == len(l) {
			return true
		}
		s := l[place]
		if !isTaking(s) {
			return give(place + 1)
		}
		for i, a := range l {
			if given[i] || !isAdding(a) || a.Call.Task != s.Result.V || a.From >= s.To {
				continue
			}
			given[i] = true
			if give(place + 1) {
				return true
			}
			given[i] = false
		}
		return false
	}
	return give(0)
}

// givenByWords gives takings addings one by one, as P16.2 says.
func givenByWords(l []api.Span) (given []bool, ok bool) {
	given = make([]bool, len(l))
	served := make([]bool, len(l))
	for {
		next := -1
		for i, s := range l {
			if isTaking(s) && !served[i] && (next < 0 || s.To < l[next].To) {
				next = i
			}
		}
		if next < 0 {
			return given, true
		}
		served[next] = true
		best := -1
		for _, open := range []bool{false, true} {
			for i, a := range l {
				if best >= 0 && (l[best].To < 0) != open {
					continue
				}
				fits := isAdding(a) && (a.To < 0) == open && !given[i] && a.Call.Task == l[next].Result.V && a.From < l[next].To
				if fits && (best < 0 || a.From < l[best].From) {
					best = i
				}
			}
		}
		if best < 0 {
			return nil, false
		}
		given[best] = true
	}
}

// orderByWords tells the order and what is left, as P16.2 and P16.3 say.
func orderByWords(l []api.Span) (order []int, left []uint64, e api.Code) {
	given, ok := givenByWords(l)
	if !ok {
		return nil, nil, api.Form
	}
	for i, s := range l {
		if isTaking(s) || isAdding(s) && (s.To >= 0 || given[i]) {
			order = append(order, i)
		}
		if isAdding(s) && s.To >= 0 && !given[i] {
			left = append(left, s.Call.Task)
		}
	}
	slices.SortFunc(order, func(i, j int) int {
		at, kind := [2]int{}, [2]int{}
		for k, s := range []api.Span{l[i], l[j]} {
			at[k] = s.From
			if isTaking(s) {
				at[k], kind[k] = s.To, 1
			}
		}
		return cmp.Or(cmp.Compare(at[0], at[1]), cmp.Compare(kind[0], kind[1]), cmp.Compare(i, j))
	})
	slices.Sort(left)
	return order, left, api.Fine
}

// isByWords looks that Can, Order and Left are as the chapter's words say, and go together.
func isByWords(t *testing.T, l []api.Span) bool {
	t.Helper()
	can := canByWords(l)
	if bag.Can(l) != can {
		t.Fatalf("Can is %v of %+v", !can, l)
	}
	order, left, e := orderByWords(l)
	if can != (e == api.Fine) {
		t.Fatalf("the words tell %v and %d of %+v", can, e, l)
	}
	if got, f := bag.Order(l); !slices.Equal(got, order) || f != e {
		t.Fatalf("Order is %d, %d instead of %d, %d of %+v", got, f, order, e, l)
	}
	if got, f := bag.Left(l); !slices.Equal(got, left) || f != e {
		t.Fatalf("Left is %d, %d instead of %d, %d of %+v", got, f, left, e, l)
	}
	return can
}

// isOrder looks that Order and Left tell these.
func isOrder(t *testing.T, l []api.Span, order []int, left []uint64) {
	t.Helper()
	was := deep(l)
	if got, e := bag.Order(l); !slices.Equal(got, order) || e != api.Fine {
		t.Errorf("Order is %d, %d instead of %d of %+v", got, e, order, l)
	}
	if got, e := bag.Left(l); !slices.Equal(got, left) || e != api.Fine {
		t.Errorf("Left is %d, %d instead of %d of %+v", got, e, left, l)
	}
	if !bag.Can(l) {
		t.Errorf("it can't be: %+v", l)
	}
	if !reflect.DeepEqual(l, was) {
		t.Fatalf("%+v has come to be %+v", was, l)
	}
}

// isNone looks that it can't be a bag's.
func isNone(t *testing.T, l []api.Span) {
	t.Helper()
	was := deep(l)
	if bag.Can(l) {
		t.Errorf("it can be: %+v", l)
	}
	if got, e := bag.Order(l); len(got) != 0 || e != api.Form {
		t.Errorf("Order is %d, %d of %+v", got, e, l)
	}
	if got, e := bag.Left(l); len(got) != 0 || e != api.Form {
		t.Errorf("Left is %d, %d of %+v", got, e, l)
	}
	if !reflect.DeepEqual(l, was) {
		t.Fatalf("%+v has come to be %+v", was, l)
	}
}

// everyList calls look of all lists of up to most of those spans.
func everyList(spans []api.Span, most int, look func([]api.Span)) {
	list := make([]api.Span, 0, most)
	var grow func()
	grow = func() {
		look(list)
		if len(list) == most {
			return
		}
		for _, s := range spans {
			list = append(list, s)
			grow()
			list = list[:len(list)-1]
		}
	}
	grow()
}

// P16.1, P16.2 and P16.3: the chapter's examples.
func TestExamples(t *testing.T) {
	isOrder(t, []api.Span{add(5, 0, 3), take(5, 1, 2)}, []int{0, 1}, nil)
	isNone(t, []api.Span{take(5, 0, 1), add(5, 2, 3)})
	isNone(t, []api.Span{take(5, 0, 1), add(5, 2, -1)})
}

func TestNoSpans(t *testing.T) {
	isOrder(t, nil, nil, nil)
	isOrder(t, []api.Span{}, nil, nil)
}

// P16.1

// A taking has an adding only if that began below the taking's end.
func TestFromBelowTo(t *testing.T) {
	for _, to := range []int{-1, 0, 1, 2, 3, 9} {
		isOrder(t, []api.Span{add(5, 1, to), take(5, 0, 2)}, []int{0, 1}, nil)
		isNone(t, []api.Span{add(5, 2, to), take(5, 0, 2)})
		isNone(t, []api.Span{add(5, 3, to), take(5, 0, 2)})
	}
	isOrder(t, []api.Span{add(5, -1, 7), take(5, 0, 0)}, []int{0, 1}, nil)
	isNone(t, []api.Span{add(5, 0, 7), take(5, -3, 0)})
	isOrder(t, []api.Span{add(5, math.MinInt, -1), take(5, 9, 0)}, []int{0, 1}, nil)
	isOrder(t, []api.Span{add(5, math.MaxInt-1, 0), take(5, 0, math.MaxInt)}, []int{0, 1}, nil)
	isNone(t, []api.Span{add(5, math.MaxInt, 0), take(5, 0, math.MaxInt)})
}

// A taking has an adding of its own task.
func TestTasks(t *testing.T) {
	tasks := []uint64{0, 1, 5, 1 << 32, math.MaxUint64 - 1, math.MaxUint64}
	for _, a := range tasks {
		for _, b := range tasks {
			l := []api.Span{add(a, 0, 1), take(b, 2, 3)}
			if a == b {
				isOrder(t, l, []int{0, 1}, nil)
			} else {
				isNone(t, l)
			}
		}
	}
}

// No adding is given to two.
func TestNoneToTwo(t *testing.T) {
	for n := range 5 {
		for taken := range 6 {
			for ended := range n + 1 {
				var l []api.Span
				for i := range n {
					l = append(l, add(5, i, -1))
					if i < ended {
						l[i].To = 9
					}
				}
				for range taken {
					l = append(l, take(5, 6, 8))
				}
				if can := isByWords(t, l); can != (taken <= n) {
					t.Errorf("it is %v: %d of %d are taken", can, taken, n)
				}
			}
		}
	}
}

// The one who comes late leaves the adding to the one who couldn't have another.
func TestWhoComesFirst(t *testing.T) {
	isOrder(t, []api.Span{take(5, 0, 9), take(5, 0, 2), add(5, 1, 8), add(5, 3, 8)}, []int{2, 1, 3, 0}, nil)
	isOrder(t, []api.Span{take(5, 0, 9), take(5, 0, 2), add(5, 3, 8), add(5, 1, 8)}, []int{3, 1, 2, 0}, nil)
	isNone(t, []api.Span{take(5, 0, 3), take(5, 0, 2), add(5, 1, 8), add(5, 3, 8)})
	// An ended one that comes late can still serve the later one, as the open one serves the first.
	isOrder(t, []api.Span{add(5, 0, -1), add(5, 3, 4), take(5, 1, 2), take(5, 1, 5)}, []int{0, 2, 1, 3}, nil)
}

// Which spans play a part hangs on what was asked, whether it has ended, and with which code.
func TestWhoPlaysAPart(t *testing.T) {
	codes := []api.Code{-1, api.Nil, api.Full, api.Empty, api.Abort, api.Broken, api.Lost, 16}
	kinds := []int{-1, 0, api.Park, 4, math.MinInt, math.MaxInt}
	for _, e := range codes {
		isOrder(t, []api.Span{with(add(5, 0, 1), e)}, nil, nil)
		isNone(t, []api.Span{with(add(5, 0, 1), e), take(5, 2, 3)})
		isNone(t, []api.Span{with(add(5, 0, 0), e), take(5, 2, 3)})
		for _, to := range []int{-1, -2, math.MinInt} {
			isOrder(t, []api.Span{with(add(5, 0, to), e), take(5, 2, 3)}, []int{0, 1}, nil)
			isOrder(t, []api.Span{with(add(5, 0, to), e)}, nil, nil)
		}
		isOrder(t, []api.Span{with(take(5, 2, 3), e)}, nil, nil)
		isOrder(t, []api.Span{add(5, 0, 1), with(take(5, 2, 3), e)}, []int{0}, []uint64{5})
	}
	for _, kind := range kinds {
		isOrder(t, []api.Span{asked(add(5, 0, 1), kind), asked(add(5, 0, -1), kind), asked(take(5, 2, 3), kind)}, nil, nil)
		isNone(t, []api.Span{asked(add(5, 0, 1), kind), asked(add(5, 0, -1), kind), take(5, 2, 3)})
		isOrder(t, []api.Span{add(5, 0, 1), asked(take(5, 2, 3), kind)}, []int{0}, []uint64{5})
	}
	for _, to := range []int{-1, -2, math.MinInt} {
		isOrder(t, []api.Span{take(5, 2, to)}, nil, nil)
		isOrder(t, []api.Span{add(5, 0, 1), take(5, 2, to)}, []int{0}, []uint64{5})
	}
	isNone(t, []api.Span{take(5, 0, 0)})
}

// An adding's task is the Call's, a taking's the Result's; all else of them plays no part.
func TestWhatPlaysAPart(t *testing.T) {
	a, b := add(5, 0, 1), take(5, 2, 3)
	a.Who, a.Nth, a.Result.V, a.Result.L, a.Call.Victims = 3, 8, 6, []uint64{7}, []int{1}
	b.Who, b.Nth, b.Call.Task, b.Result.L, b.Call.Victims = -9, 4, 6, []uint64{7}, []int{8}
	isOrder(t, []api.Span{a, b}, []int{0, 1}, nil)
	isOrder(t, []api.Span{a}, []int{0}, []uint64{5})
	isNone(t, []api.Span{a, take(6, 2, 3)})
	isNone(t, []api.Span{add(6, 0, 1), b})
	// A taking's From plays none: it may be behind its To, and below the adding's.
	for _, from := range []int{math.MinInt, -1, 0, 3, math.MaxInt} {
		isOrder(t, []api.Span{add(5, 1, 4), take(5, from, 2)}, []int{0, 1}, nil)
	}
}

// P16.2

func TestOrderByNumbers(t *testing.T) {
	isOrder(t, []api.Span{take(5, 0, 9), add(5, 4, 5), add(6, 2, 8)}, []int{2, 1, 0}, []uint64{6})
	// At one number an adding stands ahead of a taking, else the lesser place is the first.
	isOrder(t, []api.Span{take(5, 0, 3), take(5, 1, 3), add(7, 3, 4), add(5, 0, 9), add(6, 3, 9), add(5, 0, 1)}, []int{3, 5, 2, 4, 0, 1}, []uint64{6, 7})
	isOrder(t, []api.Span{add(9, 2, 3), add(8, 2, 2), add(7, 2, 9)}, []int{0, 1, 2}, []uint64{7, 8, 9})
	isOrder(t, []api.Span{add(9, math.MaxInt, 3), add(8, math.MinInt, 2), add(7, 0, 9), add(6, -1, 0)}, []int{1, 3, 2, 0}, []uint64{6, 7, 8, 9})
	isOrder(t, []api.Span{add(4, 0, 9), add(4, 0, 9), take(4, 1, math.MaxInt), take(4, 1, 1)}, []int{0, 1, 3, 2}, nil)
}

// Of the open addings just those are needed that serve where no ended one does, by their From, then by their places.
func TestNeeded(t *testing.T) {
	isOrder(t, []api.Span{add(5, 0, -1)}, nil, nil)
	isOrder(t, []api.Span{add(5, 0, -1), add(5, 1, 9), take(5, 0, 4)}, []int{1, 2}, nil)
	isOrder(t, []api.Span{add(5, 0, -1), add(5, 1, 9), take(5, 0, 1)}, []int{0, 1, 2}, []uint64{5})
	isOrder(t, []api.Span{add(5, 0, -1), add(5, 1, 9), take(5, 0, 1), take(5, 0, 2)}, []int{0, 1, 2, 3}, nil)
	isOrder(t, []api.Span{add(5, 2, -1), add(5, 1, -1), add(5, 3, -1), take(5, 0, 9)}, []int{1, 3}, nil)
	isOrder(t, []api.Span{add(5, 2, -1), add(5, 1, -1), add(5, 3, -1), take(5, 0, 9), take(5, 0, 9)}, []int{1, 0, 3, 4}, nil)
	isOrder(t, []api.Span{add(5, 1, -1), add(5, 1, -2), take(5, 0, 9)}, []int{0, 2}, nil)
	isOrder(t, []api.Span{add(5, 3, -1), add(5, 0, -1), take(5, 0, 9), take(5, 0, 2)}, []int{1, 3, 0, 2}, nil)
	isOrder(t, []api.Span{add(6, 0, -1), add(5, 1, -1), take(5, 0, 9)}, []int{1, 2}, nil)
	isOrder(t, []api.Span{add(6, 0, 1), add(5, 1, -1), take(5, 0, 9)}, []int{0, 1, 2}, []uint64{6})
}

// The one who ends first is given its adding first: what is needed hangs on that.
func TestGivenByTo(t *testing.T) {
	isOrder(t, []api.Span{take(5, 0, 9), take(5, 0, 3), add(5, 0, -1), add(5, 1, -1), add(5, 5, 6)}, []int{2, 1, 4, 0}, nil)
	isOrder(t, []api.Span{take(5, 0, 9), take(5, 0, 8), add(5, 0, -1), add(5, 1, -1), add(5, 5, 6)}, []int{2, 4, 1, 0}, nil)
	isOrder(t, []api.Span{take(5, 0, 3), take(5, 0, 3), add(5, 1, -1), add(5, 0, 6)}, []int{3, 2, 0, 1}, nil)
}

// P16.3

func TestLeft(t *testing.T) {
	isOrder(t, []api.Span{add(9, 0, 1), add(2, 0, 1), add(math.MaxUint64, 0, 1), add(0, 0, 1), add(2, 0, 1)}, []int{0, 1, 2, 3, 4}, []uint64{0, 2, 2, 9, math.MaxUint64})
	isOrder(t, []api.Span{add(2, 0, 1), add(2, 0, 1), add(2, 7, 8), take(2, 2, 3)}, []int{0, 1, 3, 2}, []uint64{2, 2})
	isOrder(t, []api.Span{add(2, 0, 1), add(2, 7, 8), add(2, 4, -1), take(2, 2, 3)}, []int{0, 3, 1}, []uint64{2})
	isOrder(t, []api.Span{add(2, 0, -1), add(1, 0, -1), take(1, 2, 3)}, []int{1, 2}, nil)
	isOrder(t, []api.Span{with(add(2, 0, 1), api.Full), add(1, 0, 1)}, []int{1}, []uint64{1})
}

// All promises

func TestEveryFew(t *testing.T) {
	spans := []api.Span{with(add(5, 0, 1), api.Full), add(6, 0, -1), add(6, 0, 3), take(6, 0, 0), take(6, 0, 2)}
	for from := range 3 {
		spans = append(spans, add(5, from, -1), add(5, from, 3), take(5, 0, from+1))
	}
	can := 0
	everyList(spans, 5, func(l []api.Span) {
		if isByWords(t, l) {
			can++
		}
	})
	if can < 100000 {
		t.Errorf("just %d lists can be", can)
	}
}

// drawnSpan is any span, right or not, of few numbers and tasks.
func drawnSpan(draw func(int) int) api.Span {
	return api.Span{
		Who: draw(3), Nth: draw(3), From: draw(9) - 2, To: draw(10) - 2,
		Call:   api.Call{Kind: []int{api.Submit, api.Submit, api.Submit, api.Next, api.Next, api.Park, 0}[draw(7)], Task: uint64(draw(3))},
		Result: api.Result{Code: []api.Code{api.Fine, api.Fine, api.Fine, api.Empty, api.Empty, api.Full, api.Abort}[draw(7)], V: uint64(draw(3))},
	}
}

// drawnSpans is a list of up to most of them.
func drawnSpans(draw func(int) int, most int) []api.Span {
	l := make([]api.Span, draw(most+1))
	for i := range l {
		l[i] = drawnSpan(draw)
	}
	return l
}

func TestAnySpans(t *testing.T) {
	draw := drawn(16)
	can := 0
	for range 100000 {
		if isByWords(t, drawnSpans(draw, 12)) {
			can++
		}
	}
	if can < 20000 || can > 80000 {
		t.Errorf("%d lists can be", can)
	}
}

// Of many at one number, too, the lesser place is the first: in the order, and of those that are needed.
func TestManyAtOneNumber(t *testing.T) {
	draw := drawn(18)
	for range 50 {
		var l []api.Span
		for range 300 {
			from := draw(3)
			switch draw(3) {
			case 0:
				l = append(l, add(uint64(draw(3)), from, -1))
			case 1:
				l = append(l, add(uint64(draw(3)), from, 3))
			default:
				l = append(l, take(uint64(draw(3)), 0, 2+draw(2)))
			}
		}
		order, left, e := orderByWords(l)
		if e != api.Fine {
			t.Fatalf("it can't be: %+v", l)
		}
		isOrder(t, l, order, left)
	}
}

// What is told is the caller's (R4): it can be changed without changing what comes next.
func TestAnswersAreNew(t *testing.T) {
	l := []api.Span{add(5, 0, 3), add(6, 0, 3), take(5, 1, 2)}
	order, _ := bag.Order(l)
	left, _ := bag.Left(l)
	order[0], left[0] = 9, 9
	isOrder(t, l, []int{0, 1, 2}, []uint64{6})
}
