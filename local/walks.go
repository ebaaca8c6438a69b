package local

import (
	"coachyard/api"
	"coachyard/deque"
	"coachyard/queue"
	"coachyard/ring"
	"coachyard/walk"
	"coachyard/word"
)

// Push lays v in.
func (r Row) Push(v uint64) *walk.Walk {
	return r.behind().Push(v)
}

// Pop takes a task: of a deque the last one, of a ring the first one.
func (r Row) Pop() *walk.Walk {
	return r.behind().Pop()
}

// Steal takes the first task of a deque, or half of a ring into the target, but for the last one of these.
func (r Row) Steal(target Row) *walk.Walk {
	if !target.Right() {
		return refusal()
	}
	switch own := r.behind().(type) {
	case deque.Row:
		if _, ok := target.behind().(deque.Row); ok {
			return own.Steal()
		}
	case ring.Row:
		if into, ok := target.behind().(ring.Row); ok {
			return own.Steal(into)
		}
	}
	return refusal()
}

// Peek tells whether there is a task in the row.
func (r Row) Peek() *walk.Walk {
	switch r.behind().(type) {
	case deque.Row:
		return r.peek(func(top, bottom uint64) bool {
			return int64(bottom-top) >= 1
		})
	case ring.Row:
		// What the head and the tail have above their lo plays no part.
		return r.peek(func(head, tail uint64) bool {
			_, first := word.Split(head)
			_, end := word.Split(tail)
			return word.Ahead(end, first) >= 1
		})
	}
	return refusal()
}

// Peek tells whether there is a task in a queue.
func Peek(q queue.Line) *walk.Walk {
	return looking(q.Right(), func(w *walk.Walk) {
		load(w, q.At, func(head uint64) {
			_, node := word.Split(head)
			if node < 1 || node > uint32(q.N) {
				w.Break(api.Broken)
				return
			}
			load(w, nextCell(q, int(node)), func(next uint64) {
				_, behind := word.Split(next)
				tell(w, behind != 0)
			})
		})
	})
}

// peek makes a walk that tells whether the row has a task, by what its first two cells are.
func (r Row) peek(has func(first, second uint64) bool) *walk.Walk {
	return looking(r.Right(), func(w *walk.Walk) {
		load(w, r.At, func(first uint64) {
			load(w, r.At+1, func(second uint64) {
				tell(w, has(first, second))
			})
		})
	})
}

// looking makes a walk that looks into something, or one that is refused.
func looking(right bool, look func(w *walk.Walk)) *walk.Walk {
	if !right {
		return refusal()
	}
	return walk.New(look)
}

func refusal() *walk.Walk {
	return walk.New(func(w *walk.Walk) { w.Break(api.Arg) })
}

func load(w *walk.Walk, cell int, next func(v uint64)) {
	w.Ask(api.Access{Kind: api.Load, Cell: cell}, func(v uint64, _ bool) { next(v) })
}

// tell ends a walk with what it has found out.
func tell(w *walk.Walk, is bool) {
	var v uint64
	if is {
		v = 1
	}
	w.End(api.Result{V: v})
}

// nextCell tells where a node's next stands.
func nextCell(q queue.Line, node int) int {
	return q.At + 2 + 2*q.N + node
}
