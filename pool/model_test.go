package pool

import (
	"slices"
	"testing"

	"millpond/api"
	"millpond/arena"
	"millpond/block"
	"millpond/node"
	"millpond/refs"
)

// none: as a limit, or as a slot's handle.
const none = -1

// thing is what a node should be.
type thing struct {
	parent           api.Handle
	kind             uint64
	name             string
	bytes            int
	limit            int
	dies             bool
	children         []api.Handle
	targets, holders []refs.Link
}

// model is a forest, by what the chapter says of it, without an arena.
type model struct {
	all         map[api.Handle]*thing
	generations [api.MaxNodes]uint64
	serial      uint64
}

// next: the handle that comes next.
func (m *model) next() (api.Handle, bool) {
	for slot, g := range m.generations {
		if m.all[api.Handle(g*256)+api.Handle(slot)] == nil {
			return api.Handle((g+1)*256) + api.Handle(slot), true
		}
	}
	return 0, false
}

// handles: of all nodes, by their slots.
func (m *model) handles() []api.Handle {
	var all []api.Handle
	for slot, g := range m.generations {
		if h := api.Handle(g*256) + api.Handle(slot); m.all[h] != nil {
			all = append(all, h)
		}
	}
	return all
}

// sum: what a node is charged with, with all below it.
func (m *model) sum(h api.Handle) int {
	n := m.all[h].bytes
	for _, child := range m.all[h].children {
		n += m.sum(child)
	}
	return n
}

// fits: have a node, and those above it, room for so many bytes?
func (m *model) fits(h api.Handle, n int) bool {
	for ; h != 0; h = m.all[h].parent {
		if limit := m.all[h].limit; limit != none && m.sum(h)+n > limit {
			return false
		}
	}
	return true
}

// refuses: the errors of a node more, but for that of memory.
func (m *model) refuses(parent api.Handle, kind uint64, name string, n int) api.Errno {
	above := m.all[parent]
	if above == nil {
		return api.ErrHandle
	}
	if kind != Pool && kind != Block || kind == Pool && n != 0 || n < 0 || n > most {
		return api.ErrArg
	}
	if len(name) > 16 {
		return api.ErrLong
	}
	if above.dies {
		return api.ErrDying
	}
	if n > 0 && !m.fits(parent, n) {
		return api.ErrLimit
	}
	if _, some := m.next(); !some {
		return api.ErrFull
	}
	return api.OK
}

// add: a node more.
func (m *model) add(parent api.Handle, kind uint64, name string, n int) api.Handle {
	h, _ := m.next()
	m.generations[h%256]++
	m.all[h] = &thing{parent: parent, kind: kind, name: name, bytes: n, limit: none}
	if parent != 0 {
		m.all[parent].children = append(m.all[parent].children, h)
	}
	return h
}

// without: links, but for those of somebody.
func without(all []refs.Link, who api.Handle) []refs.Link {
	return slices.DeleteFunc(all, func(x refs.Link) bool { return x.Who == uint64(who) })
}

// remove: a node less, or the error.
func (m *model) remove(h api.Handle) api.Errno {
	x := m.all[h]
	if x == nil {
		return api.ErrHandle
	}
	if h == 256 || len(x.children) > 0 {
		return api.ErrOrder
	}
	above := m.all[x.parent]
	above.children = slices.DeleteFunc(above.children, func(child api.Handle) bool { return child == h })
	delete(m.all, h)
	for _, other := range m.all {
		other.targets, other.holders = without(other.targets, h), without(other.holders, h)
	}
	return api.OK
}

// play is a forest, and what it should be; the numbers of a step follow from the one's ahead.
type play struct {
	t    *testing.T
	f    *Forest
	m    *model
	made int
	x    int
}

func (p *play) number(below int) int {
	p.x = (p.x*1103515245 + 12345) % (1 << 31)
	return p.x / 64 % below
}

// some: a handle of a node, now and then one of nothing.
func (p *play) some() api.Handle {
	all := p.m.handles()
	h := all[p.number(len(all))]
	if p.number(20) == 0 {
		h += api.Handle(p.number(3) * 255)
	}
	return h
}

// room: is there memory for a node with so many bytes? Asked of a clone, by the layers below.
func (p *play) room(kind uint64, n int) bool {
	f := anew(p.t, p.f.Clone())
	x, e := node.Make(f.Recycler, 0, 5, "")
	return e == api.OK && (kind == Pool || block.Of(x).Make(n) == api.OK)
}

func (p *play) make() {
	parent, kind, name := p.some(), uint64(1+p.number(2)), "seventeen letters"[:p.number(17)]
	n := []int{p.number(10), p.number(5000), p.number(40000)}[p.number(3)] * int(kind-1)
	switch p.number(25) {
	case 0:
		name = "seventeen letters"
	case 1:
		kind = uint64(p.number(5))
	case 2:
		n = []int{-1, most + 1, 1}[p.number(3)]
	}
	wanted := p.m.refuses(parent, kind, name, n)
	if wanted == api.OK && !p.room(kind, n) {
		wanted = api.ErrNoMemory
	}
	h, e := p.f.Make(parent, kind, name, n)
	is(p.t, "Make", e, wanted)
	if e != api.OK {
		if h != 0 {
			p.t.Fatalf("Make: %d beside an error", h)
		}
		return
	}
	p.made++
	if right := p.m.add(parent, kind, name, n); h != right {
		p.t.Fatalf("Make: %d, wanted %d", h, right)
	}
}

func (p *play) remove() {
	h := p.some()
	is(p.t, "Remove", p.f.Remove(h), p.m.remove(h))
}

// refer: a node refers to another one, or doesn't any more.
func (p *play) refer() {
	a, b := p.some(), p.some()
	x, y := p.m.all[a], p.m.all[b]
	if x == nil || y == nil || a == b {
		return
	}
	from, to := of(p.t, p.f, a), of(p.t, p.f, b)
	if refs.Untie(from, to) == api.OK {
		x.targets, y.holders = without(x.targets, b), without(y.holders, a)
		return
	}
	p.m.serial++
	serial := p.f.Serial()
	if serial != p.m.serial {
		p.t.Fatalf("the serial is %d, wanted %d", serial, p.m.serial)
	}
	if refs.Tie(from, to, serial) == api.OK {
		x.targets, y.holders = append(x.targets, refs.Link{Who: uint64(b), Serial: serial}), append(y.holders, refs.Link{Who: uint64(a), Serial: serial})
	}
}

// turn: a node has another limit, or dies, or doesn't any more.
func (p *play) turn() {
	h := p.some()
	x := p.m.all[h]
	if x == nil {
		return
	}
	if p.number(3) == 0 {
		x.dies = !x.dies
		of(p.t, p.f, h).Set(node.State, map[bool]uint64{false: 0, true: 7}[x.dies])
		return
	}
	n := p.number(60000) - 5000
	if p.f.SetLimit(where(p.t, p.f, h)[0], n) == api.OK {
		x.limit = max(n, none)
	}
}

func (p *play) step() {
	switch k := p.number(40); {
	case k < 16:
		p.make()
	case k < 26:
		p.remove()
	case k < 33:
		p.refer()
	case k < 36:
		p.turn()
	case k == 36:
		p.f = anew(p.t, p.f.Clone())
	case k == 37:
		p.f = anew(p.t, p.f.Arena)
	case k == 38:
		p.f.Keep(p.number(30))
	default:
		p.f.Refuse(p.number(2))
	}
}

// agree: is the forest as it should be?
func (p *play) agree() {
	p.t.Helper()
	handles(p.t, p.f, p.m.handles()...)
	for h, x := range p.m.all {
		n := of(p.t, p.f, h)
		at := n.Where()
		children(p.t, p.f, h, x.children...)
		if n.Name() != x.name || n.Get(node.Kind) != x.kind || (n.Get(node.State) != 0) != x.dies || x.parent == 0 && p.f.Parent(at) != 0 {
			p.t.Fatalf("%d is %q, of the kind %d", h, n.Name(), n.Get(node.Kind))
		}
		if p.f.Own(at) != x.bytes || p.f.Sum(at) != p.m.sum(h) || block.Of(n).Len() != x.bytes || len(n.Objects()) != int(x.kind)-1 {
			p.t.Fatalf("%d is charged with %d, in all %d", h, p.f.Own(at), p.f.Sum(at))
		}
		if limit, some := p.f.Limit(at); some != (x.limit != none) || limit != max(x.limit, 0) {
			p.t.Fatalf("%d has the limit %d", h, limit)
		}
		if !slices.Equal(refs.Targets(n), x.targets) || !slices.Equal(refs.Holders(n), x.holders) {
			p.t.Fatalf("%d refers to %v, and is held by %v", h, refs.Targets(n), refs.Holders(n))
		}
	}
	owned(p.t, p.f)
}

func TestAsTheChapterSays(t *testing.T) {
	for i, pages := range []int{0, 1, 6, 40, 150} {
		f := fresh(t, pages)
		p := &play{t: t, f: f, m: &model{all: map[api.Handle]*thing{}}, x: i + 1}
		p.m.add(0, Pool, "", 0)
		for range 700 {
			p.step()
			p.agree()
		}
		if pages > 0 && p.made < 30 {
			t.Errorf("of %d pages: only %d nodes were made", pages, p.made)
		}
		for len(p.f.Handles()) > 1 {
			for _, h := range p.f.Handles() {
				is(t, "Remove", p.f.Remove(h), p.m.remove(h))
			}
		}
		p.agree()
		p.f.Trim()
		asNew(t, p.f)
	}
}

// A forest is its arena's alone: whatever is done to others doesn't show.
func TestForestsAreApart(t *testing.T) {
	a, b := fresh(t, 20), fresh(t, 20)
	x := create(t, a, 256, Pool, "x", 0)
	before := whole(t, b.Arena)
	create(t, a, x, Block, "y", 9)
	a.Serial()
	if whole(t, b.Arena) != before || b.Serial() != 1 {
		t.Error("another forest has changed")
	}
	c, e := New(arena.New(20 + first))
	is(t, "New", e, api.OK)
	if c.Serial() != 1 {
		t.Error("a new forest has another serial")
	}
}
