package move

import (
	"slices"
	"testing"

	"millpond/api"
	"millpond/node"
	"millpond/pool"
)

// thing is what a node should be: whose child, with which bytes and limit (below 0: none), who refers to whom, the oldest link first.
type thing struct {
	parent           api.Handle
	children         []api.Handle
	bytes, limit     int
	dies             bool
	targets, holders []api.Handle
}

// model is a forest, by what the chapters say of it, without an arena.
type model map[api.Handle]*thing

// under: is a node in a subtree?
func (m model) under(h, top api.Handle) bool {
	for ; h != 0; h = m[h].parent {
		if h == top {
			return true
		}
	}
	return false
}

// sum: of all bytes of a subtree.
func (m model) sum(top api.Handle) int {
	n := m[top].bytes
	for _, child := range m[top].children {
		n += m.sum(child)
	}
	return n
}

// over: is a limit in the way of those that would be above a node, and aren't?
func (m model) over(h, to api.Handle) bool {
	for ; to != 0; to = m[to].parent {
		if limit := m[to].limit; limit >= 0 && !m.under(h, to) && m.sum(to)+m.sum(h) > limit {
			return true
		}
	}
	return false
}

// without: handles but one.
func without(all []api.Handle, h api.Handle) []api.Handle {
	return slices.DeleteFunc(all, func(x api.Handle) bool { return x == h })
}

// steal: what Steal should do; and Reparent, where the parent should be one.
func (m model) steal(h, to api.Handle, from ...api.Handle) api.Errno {
	for _, x := range slices.Concat([]api.Handle{h}, from, []api.Handle{to}) {
		if m[x] == nil {
			return api.ErrHandle
		}
	}
	x := m[h]
	if len(from) > 0 && x.parent != from[0] {
		return api.ErrOrder
	}
	if x.dies || m[to].dies {
		return api.ErrDying
	}
	if x.parent == 0 {
		return api.ErrNone
	}
	if m.under(to, h) {
		return api.ErrCycle
	}
	if m.over(h, to) {
		return api.ErrLimit
	}
	m[x.parent].children = without(m[x.parent].children, h)
	x.parent = to
	m[to].children = append(m[to].children, h)
	return api.OK
}

// refer: what Refer should do.
func (m model) refer(from, to api.Handle) api.Errno {
	a, b := m[from], m[to]
	if a == nil || b == nil {
		return api.ErrHandle
	}
	if a.dies || b.dies {
		return api.ErrDying
	}
	if from == to {
		return api.ErrCycle
	}
	if slices.Contains(a.targets, to) {
		return api.ErrThere
	}
	if len(a.targets) == 8 || len(b.holders) == 8 {
		return api.ErrFull
	}
	a.targets, b.holders = append(a.targets, to), append(b.holders, from)
	return api.OK
}

// unlink: what Unlink should do.
func (m model) unlink(from, to api.Handle) api.Errno {
	a, b := m[from], m[to]
	if a == nil || b == nil {
		return api.ErrHandle
	}
	if !slices.Contains(a.targets, to) {
		return api.ErrNone
	}
	a.targets, b.holders = without(a.targets, to), without(b.holders, from)
	return api.OK
}

// play is a forest, and what it should be; the numbers of a step follow from the one's ahead.
type play struct {
	t    *testing.T
	f    *pool.Forest
	m    model
	seen map[string]map[api.Errno]int
	x    int
}

func (p *play) number(below int) int {
	p.x = (p.x*1103515245 + 12345) % (1 << 31)
	return p.x / 64 % below
}

// some: a handle, of a node but for now and then.
func (p *play) some() api.Handle {
	all := p.f.Handles()
	h := all[p.number(len(all))]
	if p.number(25) == 0 {
		h += 256 * api.Handle(p.number(3))
	}
	return h
}

// lay: a forest with so many nodes.
func (p *play) lay(many int) {
	p.f = fresh(p.t, 100)
	p.m = model{256: {limit: -1}}
	for range many {
		parent, kind := p.some(), uint64(1+p.number(2))
		n := p.number(10) * int(kind-1)
		h, e := p.f.Make(parent, kind, "", n)
		if e != api.OK {
			continue
		}
		p.m[h] = &thing{bytes: n, limit: -1, parent: parent}
		p.m[parent].children = append(p.m[parent].children, h)
	}
}

// turn: a limit, or whether a node dies, is another one.
func (p *play) turn() {
	h := p.some()
	if p.m[h] == nil {
		return
	}
	if p.number(2) == 0 {
		p.m[h].limit = p.m.sum(h) + p.number(12)
		limit(p.t, p.f, h, p.m[h].limit)
		return
	}
	p.m[h].dies = p.number(5) == 0
	of(p.t, p.f, h).Set(node.State, map[bool]uint64{false: 0, true: 1}[p.m[h].dies])
}

// saw: a call's error is that of the model, and is counted.
func (p *play) saw(what string, got, wanted api.Errno) {
	p.t.Helper()
	is(p.t, what, got, wanted)
	if p.seen[what] == nil {
		p.seen[what] = map[api.Errno]int{}
	}
	p.seen[what][got]++
}

// step: something is done, in a forest that is opened anew now and then.
func (p *play) step() {
	h, to := p.some(), p.some()
	switch p.number(9) {
	case 0, 1:
		p.saw("Steal", Steal(p.f, h, to), p.m.steal(h, to))
	case 2, 3:
		from := p.some()
		if x := p.m[h]; x != nil && x.parent != 0 && p.number(4) > 0 {
			from = x.parent
		}
		p.saw("Reparent", Reparent(p.f, h, from, to), p.m.steal(h, to, from))
	case 4, 5, 6:
		// Some have so many links that they are full.
		if p.number(3) == 0 {
			to = 256
		}
		p.saw("Refer", Refer(p.f, h, to), p.m.refer(h, to))
	case 7:
		if x := p.m[h]; x != nil && len(x.targets) > 0 && p.number(4) > 0 {
			to = x.targets[p.number(len(x.targets))]
		}
		p.saw("Unlink", Unlink(p.f, h, to), p.m.unlink(h, to))
	default:
		p.turn()
		again, e := pool.Open(p.f.Arena)
		is(p.t, "Open", e, api.OK)
		p.f = again
	}
}

// agree: is the forest as it should be?
func (p *play) agree() {
	p.t.Helper()
	for h, x := range p.m {
		parent(p.t, p.f, h, x.parent)
		children(p.t, p.f, h, x.children...)
		targets(p.t, p.f, h, x.targets...)
		holders(p.t, p.f, h, x.holders...)
		sums(p.t, p.f, map[api.Handle]int{h: p.m.sum(h)})
	}
}

func TestAsTheChapterSays(t *testing.T) {
	p := &play{t: t, x: 28, seen: map[string]map[api.Errno]int{}}
	for i := range 8 {
		p.lay(10 + 3*i)
		for range 250 {
			p.step()
			p.agree()
		}
	}
	for what, all := range map[string][]api.Errno{
		"Steal":    {api.OK, api.ErrHandle, api.ErrDying, api.ErrNone, api.ErrCycle, api.ErrLimit},
		"Reparent": {api.OK, api.ErrHandle, api.ErrOrder, api.ErrDying, api.ErrCycle, api.ErrLimit},
		"Refer":    {api.OK, api.ErrHandle, api.ErrDying, api.ErrCycle, api.ErrThere, api.ErrFull},
		"Unlink":   {api.OK, api.ErrHandle, api.ErrNone},
	} {
		for _, e := range all {
			if p.seen[what][e] == 0 {
				t.Errorf("%s was never %d", what, e)
			}
		}
	}
}
