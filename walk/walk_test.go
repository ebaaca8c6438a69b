package walk_test

import (
	"math"
	"slices"
	"testing"

	"coachyard/api"
	"coachyard/walk"
)

const most = math.MaxUint64

// accesses are ones of all kinds, and of none, with places and words at their ends.
func accesses() []api.Access {
	return []api.Access{{}, {Kind: api.Load}, {Kind: api.Store, Cell: 3, A: most}, {Kind: api.Cas, Cell: 1, A: 1, B: 2},
		{Kind: api.Add, Cell: api.MaxCells, A: 1 << 63, B: most}, {Kind: api.Or, Cell: -1}, {Kind: api.And, B: 7},
		{Kind: api.Wait, Cell: 2, A: 5}, {Kind: math.MinInt, Cell: math.MaxInt}, {Kind: math.MaxInt, Cell: math.MinInt, A: most, B: most}}
}

func at(cell int) api.Access {
	return api.Access{Kind: api.Load, Cell: cell}
}

// one holds its number, and asks for the cell of that number; it ends with what that told.
func one(n int) *walk.Walk {
	return walk.New(func(w *walk.Walk) {
		w.Hold([]uint64{uint64(n)})
		w.Ask(at(n), func(v uint64, _ bool) { w.End(api.Result{V: v}) })
	})
}

// inside is a walk that went into sub, and ends with what came of that.
func inside(sub *walk.Walk) *walk.Walk {
	return walk.New(func(w *walk.Walk) { w.Into(sub, w.End) })
}

func ended(r api.Result) *walk.Walk {
	return walk.New(func(w *walk.Walk) { w.End(r) })
}

func wants(t *testing.T, w *walk.Walk, a api.Access) {
	t.Helper()
	if b, ok := w.Want(); !ok || b != a {
		t.Fatalf("it wants %+v, %t, not %+v", b, ok, a)
	}
	runs(t, w)
}

func runs(t *testing.T, w *walk.Walk) {
	t.Helper()
	if r, ok := w.Result(); ok || r.Code != 0 || r.V != 0 || len(r.L) > 0 {
		t.Fatalf("it hasn't ended, but tells %+v, %t", r, ok)
	}
}

func wantsNothing(t *testing.T, w *walk.Walk) {
	t.Helper()
	if a, ok := w.Want(); ok || a != (api.Access{}) {
		t.Fatalf("it wants %+v, %t", a, ok)
	}
}

// stands: it wants nothing, and hasn't ended.
func stands(t *testing.T, w *walk.Walk) {
	t.Helper()
	wantsNothing(t, w)
	runs(t, w)
}

func same(a, b api.Result) bool {
	return a.Code == b.Code && a.V == b.V && slices.Equal(a.L, b.L)
}

func isEnded(t *testing.T, w *walk.Walk, want api.Result) {
	t.Helper()
	wantsNothing(t, w)
	if r, ok := w.Result(); !ok || !same(r, want) {
		t.Fatalf("it ended with %+v, %t, not with %+v", r, ok, want)
	}
}

func holds(t *testing.T, w *walk.Walk, want ...uint64) {
	t.Helper()
	if l := w.Held(); !slices.Equal(l, want) {
		t.Fatalf("it holds %v, not %v", l, want)
	}
}

func results() []api.Result {
	return []api.Result{{}, {V: 7}, {Code: api.Full, V: most, L: []uint64{0, most}}, {Code: api.Lost}, {Code: -1, L: []uint64{1}}, {Code: math.MaxInt, V: 1}}
}

// P4.1

func TestWantOfAllAccesses(t *testing.T) {
	for _, a := range accesses() {
		w := walk.New(func(w *walk.Walk) { w.Ask(a, func(uint64, bool) { w.End(api.Result{V: 1}) }) })
		for range 3 {
			wants(t, w, a)
		}
		w.Give(0, true)
		isEnded(t, w, api.Result{V: 1})
	}
}

// What is given comes to next just once, and as it was.
func TestGive(t *testing.T) {
	for _, v := range []uint64{0, 1, 7, 1 << 32, 1 << 63, most} {
		for _, won := range []bool{false, true} {
			times := 0
			w := walk.New(func(w *walk.Walk) {
				w.Ask(at(4), func(u uint64, ok bool) {
					times++
					if u != v || ok != won {
						t.Errorf("given %d, %t, told %d, %t", v, won, u, ok)
					}
				})
			})
			if times != 0 {
				t.Error("told ahead of its being given")
			}
			w.Give(v, won)
			w.Give(v+1, !won)
			if times != 1 {
				t.Errorf("told %d times", times)
			}
			stands(t, w)
		}
	}
}

// While next is done nothing is wanted any more, till it tells what is.
func TestWantInNext(t *testing.T) {
	w := walk.New(func(w *walk.Walk) {
		wantsNothing(t, w)
		w.Ask(at(1), func(uint64, bool) {
			stands(t, w)
			w.Ask(at(2), func(uint64, bool) {
				stands(t, w)
				w.End(api.Result{V: 3})
				isEnded(t, w, api.Result{V: 3})
			})
			wants(t, w, at(2))
		})
		wants(t, w, at(1))
	})
	w.Give(0, true)
	w.Give(0, true)
	isEnded(t, w, api.Result{V: 3})
}

// Also next itself may give what it asked for.
func TestGiveInNext(t *testing.T) {
	var l []uint64
	w := walk.New(func(w *walk.Walk) {
		w.Ask(at(1), func(v uint64, _ bool) {
			l = append(l, v)
			w.Ask(at(2), func(v uint64, _ bool) { l = append(l, v) })
			w.Give(v+1, true)
			l = append(l, v+2)
		})
	})
	w.Give(5, true)
	if !slices.Equal(l, []uint64{5, 6, 7}) {
		t.Error(l)
	}
	stands(t, w)
}

func TestGiveOfOneThatWantsNothing(t *testing.T) {
	done := ended(api.Result{Code: api.Empty, V: 4, L: []uint64{8}})
	none := walk.New(nil)
	stuck := inside(none)
	for range 3 {
		done.Give(9, true)
		none.Give(9, true)
		stuck.Give(9, true)
	}
	isEnded(t, done, api.Result{Code: api.Empty, V: 4, L: []uint64{8}})
	stands(t, none)
	stands(t, stuck)
}

func TestResult(t *testing.T) {
	for _, r := range results() {
		w := walk.New(func(w *walk.Walk) { w.Ask(at(0), func(uint64, bool) { w.End(r) }) })
		wants(t, w, at(0))
		w.Give(1, false)
		isEnded(t, w, r)
		isEnded(t, w, r)
	}
}

// R4: the result's list is nobody's else.
func TestResultIsTheCallers(t *testing.T) {
	l := []uint64{1, 2, 3}
	w := ended(api.Result{Code: api.Full, L: l})
	l[0] = 50
	isEnded(t, w, api.Result{Code: api.Full, L: []uint64{1, 2, 3}})
	r, _ := w.Result()
	r.L[1] = 60
	_ = append(r.L[:2], 70)
	isEnded(t, w, api.Result{Code: api.Full, L: []uint64{1, 2, 3}})
	if !slices.Equal(l, []uint64{50, 2, 3}) {
		t.Error(l)
	}
}

func TestResultInNextIsItsOwn(t *testing.T) {
	sub := walk.New(func(w *walk.Walk) {
		w.Ask(at(0), func(uint64, bool) { w.End(api.Result{L: []uint64{1, 2}}) })
	})
	spoil := func(w *walk.Walk) {
		w.Into(sub, func(r api.Result) { r.L[0] = 9 })
	}
	w, v := walk.New(spoil), walk.New(func(w *walk.Walk) { w.Into(sub, w.End) })
	w.Give(0, true)
	isEnded(t, sub, api.Result{L: []uint64{1, 2}})
	isEnded(t, v, api.Result{L: []uint64{1, 2}})
	walk.New(spoil)
	isEnded(t, sub, api.Result{L: []uint64{1, 2}})
}

func TestBreak(t *testing.T) {
	for _, e := range []api.Code{api.Fine, api.Nil, api.Broken, api.Lost, -1, math.MaxInt} {
		told := false
		asks := walk.New(func(w *walk.Walk) { w.Ask(at(1), func(uint64, bool) { told = true }) })
		for _, w := range []*walk.Walk{asks, walk.New(nil), inside(one(3)), inside(walk.New(nil)), new(walk.Walk)} {
			w.Break(e)
			isEnded(t, w, api.Result{Code: e})
			w.Give(5, true)
			w.Break(e + 1)
			w.End(api.Result{V: 9})
			isEnded(t, w, api.Result{Code: e})
		}
		if told {
			t.Error("what is broken is told no more")
		}
	}
}

func TestBreakOfOneThatHasEnded(t *testing.T) {
	for _, r := range results() {
		w := ended(r)
		w.Break(api.Broken)
		isEnded(t, w, r)
	}
}

func TestBreakInNext(t *testing.T) {
	w := walk.New(func(w *walk.Walk) {
		w.Ask(at(0), func(uint64, bool) {
			w.Break(api.Abort)
			w.Ask(at(1), nil)
			w.End(api.Result{V: 1})
		})
	})
	w.Give(0, true)
	isEnded(t, w, api.Result{Code: api.Abort})
}

// Breaking a walk breaks it alone: that into which it went can go on by itself, and then nothing comes back.
func TestBreakLeavesTheInnerOne(t *testing.T) {
	sub := one(4)
	w := walk.New(func(w *walk.Walk) {
		w.Into(sub, func(api.Result) { t.Error("it has ended, and goes on") })
	})
	w.Break(api.Broken)
	wants(t, sub, at(4))
	sub.Give(8, true)
	isEnded(t, sub, api.Result{V: 8})
	isEnded(t, w, api.Result{Code: api.Broken})
}

func TestHeld(t *testing.T) {
	for _, l := range [][]uint64{nil, {}, {7}, {0, most, 0}, {3, 2, 1}} {
		w := walk.New(func(w *walk.Walk) { w.Hold(l) })
		holds(t, w, l...)
		w.Hold([]uint64{4, 4})
		holds(t, w, 4, 4)
		w.Hold(l)
		holds(t, w, l...)
		w.Hold(nil)
		holds(t, w)
	}
	holds(t, new(walk.Walk))
}

// Behind its own tasks come those of the walk into which it went, and behind these those of that one's.
func TestHeldOfInner(t *testing.T) {
	c := one(3)
	b := walk.New(func(w *walk.Walk) {
		w.Hold([]uint64{20, 21})
		w.Into(c, func(r api.Result) {
			holds(t, w, 6)
			w.Hold([]uint64{r.V})
			w.Ask(at(2), func(v uint64, _ bool) { w.End(api.Result{V: v}) })
		})
	})
	a := walk.New(func(w *walk.Walk) {
		w.Hold([]uint64{1})
		w.Into(b, func(api.Result) {
			holds(t, w, 5)
			w.Ask(at(1), func(uint64, bool) { w.End(api.Result{}) })
		})
	})
	holds(t, a, 1, 20, 21, 3)
	holds(t, b, 20, 21, 3)
	holds(t, c, 3)
	a.Hold(nil)
	b.Hold([]uint64{6})
	c.Hold([]uint64{8, 9})
	holds(t, a, 6, 8, 9)
	a.Give(30, true)
	holds(t, a, 30)
	a.Hold([]uint64{5})
	holds(t, a, 5, 30)
	a.Give(0, true)
	holds(t, a, 5)
	wants(t, a, at(1))
	a.Give(0, true)
	holds(t, a, 5)
	holds(t, b, 30)
	holds(t, c, 8, 9)
}

func TestHeldOfAnEndedInner(t *testing.T) {
	sub := one(3)
	sub.Give(0, true)
	holds(t, sub, 3)
	w := walk.New(func(w *walk.Walk) {
		w.Hold([]uint64{1})
		w.Into(sub, nil)
	})
	holds(t, w, 1)
}

// The inner one hasn't ended when the outer one is broken, and holds its tasks still.
func TestHeldOfABrokenOne(t *testing.T) {
	inner := one(4)
	sub := inside(inner)
	sub.Hold([]uint64{3})
	w := inside(sub)
	w.Hold([]uint64{1, 2})
	w.Break(api.Broken)
	holds(t, w, 1, 2, 3, 4)
	inner.Give(0, true)
	holds(t, w, 1, 2)
	w.Hold(nil)
	holds(t, w)
}

// R4
func TestHeldIsTheCallers(t *testing.T) {
	l := []uint64{1, 2}
	sub := one(5)
	w := walk.New(func(w *walk.Walk) {
		w.Hold(l)
		w.Into(sub, nil)
	})
	l[0] = 40
	holds(t, w, 1, 2, 5)
	h := w.Held()
	h[0], h[1], h[2] = 7, 8, 9
	_ = append(h[:1], 6)
	holds(t, w, 1, 2, 5)
	holds(t, sub, 5)
	if !slices.Equal(l, []uint64{40, 2}) {
		t.Error(l)
	}
	h = sub.Held()
	h[0] = 11
	_ = append(w.Held(), 12)
	holds(t, w, 1, 2, 5)
}

// P4.2

func TestNew(t *testing.T) {
	var begun *walk.Walk
	times := 0
	w := walk.New(func(w *walk.Walk) {
		begun = w
		times++
	})
	if w == nil || begun != w || times != 1 {
		t.Error(w, begun, times)
	}
	stands(t, w)
	holds(t, w)
	w.Give(1, true)
	w.Give(1, true)
	stands(t, w)
	if times != 1 {
		t.Error(times)
	}
}

func TestNilFunctions(t *testing.T) {
	stands(t, walk.New(nil))
	w := walk.New(func(w *walk.Walk) { w.Ask(at(6), nil) })
	wants(t, w, at(6))
	w.Give(1, true)
	stands(t, w)
	w = walk.New(func(w *walk.Walk) { w.Into(one(2), nil) })
	wants(t, w, at(2))
	w.Give(1, true)
	stands(t, w)
	stands(t, walk.New(func(w *walk.Walk) { w.Into(ended(api.Result{}), nil) }))
	stands(t, walk.New(func(w *walk.Walk) { w.Into(nil, nil) }))
}

// A next that tells nothing leaves it wanting nothing, though it wanted something ahead of that.
func TestNothingTold(t *testing.T) {
	for _, begin := range []func(w *walk.Walk){
		func(w *walk.Walk) { w.Hold([]uint64{1}) },
		func(w *walk.Walk) { w.Into(ended(api.Result{V: 3}), func(api.Result) {}) },
		func(w *walk.Walk) { w.Ask(at(1), nil); w.Into(nil, nil) },
	} {
		stands(t, walk.New(begin))
	}
	w := walk.New(func(w *walk.Walk) {
		w.Ask(at(1), func(v uint64, _ bool) { w.Hold([]uint64{v}) })
	})
	w.Give(8, true)
	stands(t, w)
	holds(t, w, 8)
}

func TestInto(t *testing.T) {
	for _, r := range results() {
		sub := walk.New(func(w *walk.Walk) {
			w.Ask(at(1), func(v uint64, won bool) {
				if v != 41 || won {
					t.Error(v, won)
				}
				w.Ask(at(2), func(v uint64, won bool) {
					if v != 42 || !won {
						t.Error(v, won)
					}
					w.End(r)
				})
			})
		})
		times := 0
		w := walk.New(func(w *walk.Walk) {
			w.Into(sub, func(got api.Result) {
				times++
				stands(t, w)
				if !same(got, r) {
					t.Errorf("told %+v, not %+v", got, r)
				}
				w.Ask(at(3), func(uint64, bool) { w.End(api.Result{V: 5}) })
			})
		})
		wants(t, w, at(1))
		w.Give(41, false)
		wants(t, w, at(2))
		wants(t, sub, at(2))
		if times != 0 {
			t.Error("next is done ahead of the end")
		}
		w.Give(42, true)
		isEnded(t, sub, r)
		wants(t, w, at(3))
		w.Give(43, true)
		isEnded(t, w, api.Result{V: 5})
		if times != 1 {
			t.Error(times)
		}
	}
}

func TestIntoAtOnce(t *testing.T) {
	for _, r := range results() {
		var steps []string
		w := walk.New(func(w *walk.Walk) {
			w.Into(ended(r), func(got api.Result) {
				steps = append(steps, "next")
				if !same(got, r) {
					t.Errorf("told %+v, not %+v", got, r)
				}
				w.End(got)
			})
			steps = append(steps, "behind")
			isEnded(t, w, r)
		})
		isEnded(t, w, r)
		if !slices.Equal(steps, []string{"next", "behind"}) {
			t.Error(steps)
		}
	}
}

func TestIntoNil(t *testing.T) {
	times := 0
	w := walk.New(func(w *walk.Walk) {
		w.Into(nil, func(r api.Result) {
			times++
			w.End(r)
		})
		isEnded(t, w, api.Result{Code: api.Nil})
	})
	isEnded(t, w, api.Result{Code: api.Nil})
	if times != 1 {
		t.Error(times)
	}
}

// It goes on where that one stands into which it goes.
func TestIntoUnderWay(t *testing.T) {
	sub := walk.Plain([]api.Access{at(1), at(2)})
	sub.Give(10, true)
	w := inside(sub)
	wants(t, w, at(2))
	w.Give(20, true)
	isEnded(t, w, api.Result{V: 20, L: []uint64{10, 20}})
}

func TestIntoStuck(t *testing.T) {
	sub := walk.New(nil)
	sub.Hold([]uint64{3})
	w := inside(sub)
	stands(t, w)
	holds(t, w, 3)
	w.Give(1, true)
	stands(t, w)
	sub.Ask(at(7), func(v uint64, _ bool) { sub.End(api.Result{V: v}) })
	wants(t, w, at(7))
	w.Give(9, true)
	isEnded(t, w, api.Result{V: 9})
}

// However the inner one has come to its end, the outer one goes on at once.
func TestInnerEndedByOthers(t *testing.T) {
	for i, end := range []func(sub *walk.Walk){
		func(sub *walk.Walk) { sub.Give(4, true) },
		func(sub *walk.Walk) { sub.End(api.Result{V: 4}) },
		func(sub *walk.Walk) { sub.Break(api.Busy) },
		func(sub *walk.Walk) { sub.Into(ended(api.Result{V: 4}), sub.End) },
		func(sub *walk.Walk) { sub.Into(nil, sub.End) },
	} {
		want := []api.Result{{V: 4}, {V: 4}, {Code: api.Busy}, {V: 4}, {Code: api.Nil}}[i]
		sub := one(2)
		var got []api.Result
		w := walk.New(func(w *walk.Walk) {
			w.Into(sub, func(r api.Result) {
				got = append(got, r)
				w.Ask(at(9), nil)
			})
		})
		end(sub)
		if len(got) != 1 || !same(got[0], want) {
			t.Errorf("%d: told %+v", i, got)
		}
		wants(t, w, at(9))
		holds(t, w)
	}
}

// The outer one goes on when the function by which the inner one ended is through.
func TestNextComesBehindTheInnersFunction(t *testing.T) {
	var steps []string
	sub := walk.New(func(w *walk.Walk) {
		w.Ask(at(1), func(uint64, bool) {
			w.Into(ended(api.Result{}), func(r api.Result) { w.End(r) })
			steps = append(steps, "inner")
		})
	})
	w := walk.New(func(w *walk.Walk) {
		w.Into(sub, func(r api.Result) {
			steps = append(steps, "outer")
			w.End(r)
		})
	})
	w.Give(0, true)
	if !slices.Equal(steps, []string{"inner", "outer"}) {
		t.Error(steps)
	}
	isEnded(t, w, api.Result{})
}

func TestTwoInOne(t *testing.T) {
	sub := walk.Plain([]api.Access{at(1), at(2)})
	var steps []string
	through := func(name string, cell int) *walk.Walk {
		return walk.New(func(w *walk.Walk) {
			w.Into(sub, func(r api.Result) {
				steps = append(steps, name)
				w.Ask(at(cell), func(uint64, bool) { w.End(r) })
			})
		})
	}
	a, b := through("a", 5), through("b", 6)
	gone := through("gone", 7)
	gone.Ask(at(8), nil)
	broken := through("broken", 7)
	broken.Break(api.Broken)
	a.Give(10, true)
	wants(t, b, at(2))
	b.Give(20, true)
	wants(t, a, at(5))
	wants(t, b, at(6))
	wants(t, gone, at(8))
	isEnded(t, broken, api.Result{Code: api.Broken})
	a.Give(0, true)
	b.Give(0, true)
	isEnded(t, a, api.Result{V: 20, L: []uint64{10, 20}})
	isEnded(t, b, api.Result{V: 20, L: []uint64{10, 20}})
	if !slices.Equal(steps, []string{"a", "b"}) {
		t.Error(steps)
	}
}

// What one does when the inner one has ended may reach another one that waits for that.
func TestTwoInOneThatTouch(t *testing.T) {
	sub := one(1)
	var second *walk.Walk
	walk.New(func(w *walk.Walk) {
		w.Into(sub, func(api.Result) {
			second.Into(one(2), second.End)
			w.End(api.Result{})
		})
	})
	second = walk.New(func(w *walk.Walk) {
		w.Into(sub, func(api.Result) { t.Error("it isn't in there any more") })
	})
	second.Give(0, true)
	wants(t, second, at(2))
	second.Give(9, true)
	isEnded(t, second, api.Result{V: 9})
}

// Of what is told by one function the last counts; but the end counts in any case.
func TestTheLastTold(t *testing.T) {
	never := func(api.Result) { t.Error("it isn't in there any more") }
	sub := one(3)
	w := walk.New(func(w *walk.Walk) {
		w.Ask(at(1), func(uint64, bool) { t.Error("not asked for any more") })
		w.Into(sub, never)
		w.Ask(at(2), func(v uint64, _ bool) { w.End(api.Result{V: v}) })
	})
	wants(t, w, at(2))
	holds(t, w)
	sub.Give(0, true)
	wants(t, w, at(2))
	w.Give(6, true)
	isEnded(t, w, api.Result{V: 6})
	w = walk.New(func(w *walk.Walk) {
		w.Into(one(4), never)
		w.Into(one(5), w.End)
	})
	wants(t, w, at(5))
	holds(t, w, 5)
	w = walk.New(func(w *walk.Walk) {
		w.Into(one(4), never)
		w.End(api.Result{V: 1})
		w.Ask(at(6), nil)
	})
	w.Give(0, true)
	isEnded(t, w, api.Result{V: 1})
}

// Those that wait for one go on in the order in which they went into it last.
func TestTheOrderOfThoseInOne(t *testing.T) {
	sub := one(1)
	var steps []string
	in := func(w *walk.Walk, name string) {
		w.Into(sub, func(api.Result) { steps = append(steps, name) })
	}
	a, b, c := walk.New(nil), walk.New(nil), walk.New(nil)
	in(a, "first")
	in(b, "b")
	in(c, "c")
	in(a, "a")
	sub.Give(0, true)
	if !slices.Equal(steps, []string{"b", "c", "a"}) {
		t.Error(steps)
	}
}

// Going once more into one leaves it as it was: next comes once.
func TestIntoAgain(t *testing.T) {
	sub := one(1)
	times := 0
	w := walk.New(nil)
	for range 3 {
		w.Into(sub, func(r api.Result) { times++ })
	}
	holds(t, w, 1)
	w.Give(0, true)
	if times != 1 {
		t.Error(times)
	}
	stands(t, w)
}

func TestEndedDoesNothing(t *testing.T) {
	for _, r := range results() {
		sub := one(3)
		never := func(api.Result) { t.Error("it has ended, and goes on") }
		tell := func(w *walk.Walk) {
			w.End(r)
			w.Ask(at(1), func(uint64, bool) { t.Error("it has ended, and asks") })
			w.Into(sub, never)
			w.Into(nil, never)
			w.Into(ended(api.Result{V: 9}), never)
			w.End(api.Result{Code: api.Busy, V: 8, L: []uint64{8}})
			w.Break(api.Broken)
		}
		w := walk.New(tell)
		isEnded(t, w, r)
		tell(w)
		holds(t, w)
		w.Give(0, true)
		wants(t, sub, at(3))
		sub.Give(0, true)
		isEnded(t, w, r)
	}
}

// Of Hold nothing is said but that it counts from now on.
func TestEndedHolds(t *testing.T) {
	w := walk.New(func(w *walk.Walk) {
		w.Hold([]uint64{1})
		w.End(api.Result{})
		holds(t, w, 1)
		w.Hold([]uint64{2, 3})
	})
	holds(t, w, 2, 3)
	w.Hold([]uint64{4})
	holds(t, w, 4)
}

// Long rows of walks one in the other: each that ends hands on what came of it.
func TestDeep(t *testing.T) {
	const deep = 1 << 16
	w := walk.Until(at(1))
	inner := w
	for range deep {
		sub := w
		w = walk.New(func(w *walk.Walk) {
			w.Into(sub, func(r api.Result) { w.End(api.Result{V: r.V + 1}) })
		})
	}
	inner.Hold([]uint64{6})
	holds(t, w, 6)
	wants(t, w, at(1))
	w.Give(0, false)
	wants(t, w, at(1))
	w.Give(5, true)
	isEnded(t, w, api.Result{V: deep + 5})
	isEnded(t, inner, api.Result{V: 5})
}

// Going deeper while being gone through, each time from the innermost one.
func TestDeeperAndDeeper(t *testing.T) {
	const deep = 2000
	var down func(n int) *walk.Walk
	down = func(n int) *walk.Walk {
		return walk.New(func(w *walk.Walk) {
			w.Hold([]uint64{uint64(n)})
			w.Ask(at(n), func(v uint64, _ bool) {
				if n == deep {
					w.End(api.Result{V: v})
					return
				}
				w.Into(down(n+1), w.End)
			})
		})
	}
	w := down(1)
	for n := 1; n <= deep; n++ {
		wants(t, w, at(n))
		if l := w.Held(); len(l) != n || l[n-1] != uint64(n) {
			t.Fatal(l)
		}
		w.Give(uint64(n), true)
	}
	isEnded(t, w, api.Result{V: deep})
}

// part is either an access, or a walk of parts.
type part struct {
	cell int
	subs []part
}

// do makes a walk of parts, that holds its depth; its result's list is what all accesses told.
func do(l []part, depth uint64) *walk.Walk {
	return walk.New(func(w *walk.Walk) {
		w.Hold([]uint64{depth})
		var told []uint64
		var goOn func(i int)
		goOn = func(i int) {
			if i == len(l) {
				w.End(api.Result{V: uint64(len(told)), L: told})
				return
			}
			if l[i].cell > 0 {
				w.Ask(at(l[i].cell), func(v uint64, _ bool) {
					told = append(told, v)
					goOn(i + 1)
				})
				return
			}
			w.Into(do(l[i].subs, depth+1), func(r api.Result) {
				told = append(told, r.L...)
				goOn(i + 1)
			})
		}
		goOn(0)
	})
}

// flat tells the cells of all accesses, in order, each with its depth.
func flat(l []part, depth int) [][2]int {
	var out [][2]int
	for _, p := range l {
		if p.cell > 0 {
			out = append(out, [2]int{p.cell, depth})
		}
		out = append(out, flat(p.subs, depth+1)...)
	}
	return out
}

// parts makes parts of a number's digits: 1 is an access, 2 opens a walk, 3 and an end close it.
func parts(n int, cell *int) ([]part, int) {
	var l []part
	for n > 0 {
		d := n % 4
		n /= 4
		switch d {
		case 1:
			*cell++
			l = append(l, part{cell: *cell})
		case 2:
			var subs []part
			subs, n = parts(n, cell)
			l = append(l, part{subs: subs})
		case 3:
			return l, n
		}
	}
	return l, 0
}

// Walks that go into each other ask for what all of them ask for, one after the other.
func TestAllShapes(t *testing.T) {
	for n := range 1 << 14 {
		cell := 0
		l, _ := parts(n, &cell)
		w := do(l, 0)
		var told []uint64
		for _, c := range flat(l, 0) {
			wants(t, w, at(c[0]))
			h := w.Held()
			if len(h) != c[1]+1 || h[c[1]] != uint64(c[1]) {
				t.Fatalf("%d: it holds %v", n, h)
			}
			told = append(told, uint64(c[0])*3)
			w.Give(uint64(c[0])*3, true)
		}
		isEnded(t, w, api.Result{V: uint64(len(told)), L: told})
		holds(t, w, 0)
	}
}

// P4.3

func TestPlain(t *testing.T) {
	for n := range len(accesses()) + 1 {
		l := accesses()[:n]
		w := walk.Plain(l)
		var told []uint64
		for i, a := range l {
			wants(t, w, a)
			told = append(told, most-uint64(i))
			w.Give(most-uint64(i), i%2 == 0)
		}
		want := api.Result{L: told}
		if n > 0 {
			want.V = told[n-1]
		}
		isEnded(t, w, want)
		w.Give(1, true)
		isEnded(t, w, want)
		holds(t, w)
	}
}

func TestPlainOfNone(t *testing.T) {
	for _, l := range [][]api.Access{nil, {}} {
		isEnded(t, walk.Plain(l), api.Result{})
	}
}

// R4
func TestPlainKeepsNoList(t *testing.T) {
	l := []api.Access{at(1), at(2), at(3)}
	w := walk.Plain(l)
	l[0], l[1] = at(8), at(9)
	wants(t, w, at(1))
	w.Give(0, true)
	wants(t, w, at(2))
	w.Give(0, true)
	w.Give(0, true)
	if !slices.Equal(l, []api.Access{at(8), at(9), at(3)}) {
		t.Error(l)
	}
	isEnded(t, w, api.Result{L: []uint64{0, 0, 0}})
}

func TestPlainBroken(t *testing.T) {
	w := walk.Plain([]api.Access{at(1), at(2)})
	w.Give(7, true)
	w.Break(api.Broken)
	isEnded(t, w, api.Result{Code: api.Broken})
	w.Give(8, true)
	isEnded(t, w, api.Result{Code: api.Broken})
}

func TestPlainLong(t *testing.T) {
	l := slices.Repeat([]api.Access{at(1)}, 100000)
	w := walk.Plain(l)
	for i := range l {
		wants(t, w, at(1))
		w.Give(uint64(i), true)
	}
	r, ok := w.Result()
	if !ok || r.V != 99999 || len(r.L) != 100000 || r.L[500] != 500 {
		t.Error(r.V, len(r.L), ok)
	}
}

func TestUntil(t *testing.T) {
	for _, a := range accesses() {
		for _, times := range []int{0, 1, 2, 50, 100000} {
			w := walk.Until(a)
			for i := range times {
				wants(t, w, a)
				w.Give(uint64(i), false)
			}
			wants(t, w, a)
			w.Give(most-uint64(times), true)
			isEnded(t, w, api.Result{V: most - uint64(times)})
			holds(t, w)
			w.Give(3, true)
			isEnded(t, w, api.Result{V: most - uint64(times)})
		}
	}
}

func TestUntilBroken(t *testing.T) {
	w := walk.Until(at(1))
	w.Give(4, false)
	w.Break(api.Broken)
	w.Give(5, true)
	isEnded(t, w, api.Result{Code: api.Broken})
}

// R6: each goes its own way.
func TestWalksApart(t *testing.T) {
	l := []api.Access{at(1), at(2)}
	a, b, c, d := walk.Plain(l), walk.Plain(l), walk.Until(at(3)), walk.Until(at(3))
	a.Give(10, true)
	c.Give(30, true)
	wants(t, b, at(1))
	wants(t, d, at(3))
	b.Give(11, true)
	b.Give(12, true)
	a.Give(20, true)
	isEnded(t, a, api.Result{V: 20, L: []uint64{10, 20}})
	isEnded(t, b, api.Result{V: 12, L: []uint64{11, 12}})
	isEnded(t, c, api.Result{V: 30})
	wants(t, d, at(3))
}

// R1

func TestNil(t *testing.T) {
	var none *walk.Walk
	never := func(api.Result) { t.Error("nobody goes on") }
	none.Ask(at(1), func(uint64, bool) { t.Error("nobody asks") })
	none.Into(one(1), never)
	none.Into(ended(api.Result{}), never)
	none.Into(nil, never)
	none.End(api.Result{V: 1})
	none.Hold([]uint64{1})
	none.Give(1, true)
	none.Break(api.Broken)
	wantsNothing(t, none)
	runs(t, none)
	holds(t, none)
}

// One that New didn't make is told nothing as yet.
func TestMadeByNobody(t *testing.T) {
	w := new(walk.Walk)
	stands(t, w)
	holds(t, w)
	w.Give(1, true)
	w.Into(one(2), w.End)
	wants(t, w, at(2))
	w.Give(5, true)
	isEnded(t, w, api.Result{V: 5})
}

// A function that throws a fault has told what it told ahead of that.
func TestFaults(t *testing.T) {
	stands(t, walk.New(func(*walk.Walk) { panic("begin") }))
	var none []int
	w := walk.New(func(w *walk.Walk) {
		w.Ask(at(1), func(uint64, bool) {
			w.Ask(at(none[3]), nil)
		})
		panic(nil)
	})
	wants(t, w, at(1))
	w.Give(1, true)
	stands(t, w)
	w = walk.New(func(w *walk.Walk) {
		w.Into(nil, func(api.Result) { panic(w) })
		w.Ask(at(2), nil)
	})
	wants(t, w, at(2))
}

func TestFaultOfAnInnerOne(t *testing.T) {
	sub := walk.New(func(w *walk.Walk) {
		w.Ask(at(1), func(uint64, bool) {
			w.End(api.Result{V: 6})
			panic("behind the end")
		})
	})
	w := walk.New(func(w *walk.Walk) {
		w.Into(sub, func(r api.Result) {
			w.Into(one(2), w.End)
			panic(r)
		})
	})
	out := inside(w)
	w.Give(0, true)
	isEnded(t, sub, api.Result{V: 6})
	wants(t, out, at(2))
	out.Give(8, true)
	isEnded(t, out, api.Result{V: 8})
}

// Who goes into itself wants what it wants itself, and that is nothing; each call ends.
func TestIntoItself(t *testing.T) {
	never := func(api.Result) { t.Error("it has ended, and goes on") }
	w := walk.New(func(w *walk.Walk) {
		w.Hold([]uint64{5})
		w.Into(w, never)
	})
	stands(t, w)
	holds(t, w, 5)
	w.Give(1, true)
	stands(t, w)
	w.Break(api.Busy)
	isEnded(t, w, api.Result{Code: api.Busy})
	holds(t, w, 5)
}

func TestRoundAbout(t *testing.T) {
	for n := 2; n <= 6; n++ {
		l := make([]*walk.Walk, n)
		for i := range l {
			l[i] = walk.New(nil)
			l[i].Hold([]uint64{uint64(i)})
		}
		for i, w := range l {
			w.Into(l[(i+1)%n], w.End)
		}
		outside := inside(l[0])
		for _, w := range append(l, outside) {
			stands(t, w)
			w.Give(1, true)
			if len(w.Held()) > n {
				t.Error(w.Held())
			}
		}
		holds(t, l[0], []uint64{0, 1, 2, 3, 4, 5}[:n]...)
		l[n-1].Break(api.Abort)
		for _, w := range append(l, outside) {
			isEnded(t, w, api.Result{Code: api.Abort})
		}
	}
}

// One that has ended goes nowhere any more: a row of walks that passes it isn't round.
func TestRoundByOneThatHasEnded(t *testing.T) {
	outer, sub, between := walk.New(nil), walk.New(nil), walk.New(nil)
	sub.Into(between, func(api.Result) {
		sub.Ask(at(3), func(v uint64, _ bool) { sub.End(api.Result{V: v}) })
	})
	between.Ask(at(1), func(uint64, bool) {
		between.Into(outer, nil)
		between.End(api.Result{})
		outer.Into(sub, outer.End)
	})
	between.Give(0, true)
	wants(t, outer, at(3))
	outer.Give(4, true)
	isEnded(t, outer, api.Result{V: 4})
}
