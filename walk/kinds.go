package walk

import (
	"slices"

	"coachyard/api"
)

// plain is a walk that asks for accesses, one by one.
type plain struct {
	*Walk
	left []api.Access
	told api.Result
}

// until is a walk that asks for one access, till that wins.
type until struct {
	*Walk
	access api.Access
}

// Plain asks for the accesses of l; its result is what the last one told, and what all told.
func Plain(l []api.Access) *Walk {
	left := slices.Clone(l)
	return New(func(w *Walk) {
		p := &plain{Walk: w, left: left}
		p.goOn()
	})
}

// Until asks for a, again and again; its result is what was told when it won.
func Until(a api.Access) *Walk {
	return New(func(w *Walk) {
		u := &until{Walk: w, access: a}
		u.Ask(u.access, u.look)
	})
}

func (p *plain) goOn() {
	if len(p.left) == 0 {
		p.End(p.told)
		return
	}
	a := p.left[0]
	p.left = p.left[1:]
	p.Ask(a, p.note)
}

func (p *plain) note(v uint64, _ bool) {
	p.told.V = v
	p.told.L = append(p.told.L, v)
	p.goOn()
}

func (u *until) look(v uint64, won bool) {
	if !won {
		u.Ask(u.access, u.look)
		return
	}
	u.End(api.Result{V: v})
}
