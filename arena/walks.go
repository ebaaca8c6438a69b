package arena

import (
	"coachyard/api"
	"coachyard/walk"
	"coachyard/word"
)

// turn is a walk that turns the head from one node to another one, and tries anew as long as others are faster.
type turn struct {
	*walk.Walk
	Arena
	head   uint64
	look   func() // what is done with each head that is told
	result api.Result
}

// taking turns the head from its node to the one behind that.
type taking struct {
	turn
}

// putting turns the head to its node, behind which it lays what the head was.
type putting struct {
	turn
	node int
}

// Take takes a node.
func (a Arena) Take() *walk.Walk {
	if !a.Right() {
		return refusal()
	}
	return walk.New(func(w *walk.Walk) {
		t := &taking{turn: turn{Walk: w, Arena: a}}
		t.look = t.follow
		t.begin()
	})
}

// Put puts the node i back.
func (a Arena) Put(i int) *walk.Walk {
	if !a.Right() || i < 1 || i > a.N {
		return refusal()
	}
	return walk.New(func(w *walk.Walk) {
		p := &putting{turn: turn{Walk: w, Arena: a}, node: i}
		p.look = p.lay
		p.begin()
	})
}

func refusal() *walk.Walk {
	return walk.New(func(w *walk.Walk) { w.Break(api.Arg) })
}

func (t *turn) begin() {
	t.Ask(api.Access{Kind: api.Load, Cell: t.At}, t.read)
}

func (t *turn) read(v uint64, _ bool) {
	t.head = v
	t.look()
}

// to raises the tag: else one whom others overtook couldn't tell a head that came back from one that stayed.
func (t *turn) to(node uint32) {
	tag, _ := word.Split(t.head)
	t.Ask(api.Access{Kind: api.Cas, Cell: t.At, A: t.head, B: word.Pair(tag+1, node)}, t.tried)
}

func (t *turn) tried(v uint64, won bool) {
	if !won {
		t.read(v, won)
		return
	}
	t.End(t.result)
}

func (t *taking) follow() {
	node := int(number(t.head))
	if node == 0 {
		t.Break(api.NoMem)
		return
	}
	if node > t.N {
		t.Break(api.Broken)
		return
	}
	t.result.V = uint64(node)
	t.Ask(api.Access{Kind: api.Load, Cell: t.At + node}, t.linked)
}

func (t *taking) linked(v uint64, _ bool) {
	t.to(number(v))
}

func (p *putting) lay() {
	p.Ask(api.Access{Kind: api.Store, Cell: p.At + p.node, A: uint64(number(p.head))}, p.laid)
}

func (p *putting) laid(uint64, bool) {
	p.to(uint32(p.node))
}
