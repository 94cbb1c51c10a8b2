package tear

import (
	"slices"
	"testing"

	"millpond/api"
	"millpond/clean"
	"millpond/node"
	"millpond/pool"
	"millpond/refs"
)

// thing is what a node should be: whose child, of which kind, with which charge, objects (their sizes, the first one first), limit (below 0: none) and entries (of true the pre-cleanups), held by whom, since when.
type thing struct {
	parent   api.Handle
	children []api.Handle
	kind     uint64
	own      int
	objects  []int
	held     bool
	limit    int
	dies     bool
	holders  []refs.Link
	entries  map[bool][]clean.Entry
}

// model is a forest, by what the chapters say of it, without an arena.
type model struct {
	things map[api.Handle]*thing
	serial uint64
	events []Event
}

// under: is a node in a subtree?
func (m *model) under(h, top api.Handle) bool {
	for ; h != 0; h = m.things[h].parent {
		if h == top {
			return true
		}
	}
	return false
}

// down: a subtree, parents first.
func (m *model) down(top api.Handle) []api.Handle {
	all := []api.Handle{top}
	for _, child := range m.things[top].children {
		all = append(all, m.down(child)...)
	}
	return all
}

// sum: of all charges of a subtree.
func (m *model) sum(top api.Handle) int {
	n := 0
	for _, h := range m.down(top) {
		n += m.things[h].own
	}
	return n
}

// fits: is no limit in the way of so many bytes more?
func (m *model) fits(h api.Handle, n int) bool {
	for ; h != 0; h = m.things[h].parent {
		if limit := m.things[h].limit; limit >= 0 && m.sum(h)+n > limit {
			return false
		}
	}
	return true
}

// cut: a node has no parent any more; where it was among the children.
func (m *model) cut(h api.Handle) int {
	above := m.things[m.things[h].parent]
	place := slices.Index(above.children, h)
	above.children = slices.Delete(above.children, place, place+1)
	m.things[h].parent = 0
	return place
}

// put: a node is another one's child, at a place.
func (m *model) put(h, to api.Handle, place int) {
	m.things[to].children = slices.Insert(m.things[to].children, place, h)
	m.things[h].parent = to
}

// move: it is moved, if no limit is in the way of those that weren't above it. Those that were had that sum already.
func (m *model) move(h, to api.Handle) bool {
	was := m.things[h].parent
	place := m.cut(h)
	if m.fits(to, m.sum(h)) {
		m.put(h, to, len(m.things[to].children))
		return true
	}
	m.put(h, was, place)
	return false
}

// saved: is a node moved to the first of its holders that is outside, and doesn't die, and may have it?
func (m *model) saved(h, top api.Handle) bool {
	for _, x := range m.things[h].holders {
		who := api.Handle(x.Who)
		if !m.under(who, top) && !m.things[who].dies && m.move(h, who) {
			return true
		}
	}
	return false
}

// save: as long as somebody is moved all of the subtree are looked at; was the node itself moved?
func (m *model) save(top api.Handle, whole bool) bool {
	for again := true; again; {
		again = false
		for _, h := range m.down(top) {
			if h == top && !whole || !m.under(h, top) || !m.saved(h, top) {
				continue
			}
			if h == top {
				return true
			}
			again = true
		}
	}
	return false
}

// remove: a node is gone, and all that tells of it.
func (m *model) remove(h api.Handle) {
	m.cut(h)
	delete(m.things, h)
	for _, x := range m.things {
		x.holders = slices.DeleteFunc(x.holders, func(l refs.Link) bool { return l.Who == uint64(h) })
	}
}

// dying: does somebody in a subtree?
func (m *model) dying(h api.Handle) bool {
	return slices.ContainsFunc(m.down(h), func(x api.Handle) bool { return m.things[x].dies })
}

// destroy: what Destroy should do.
func (m *model) destroy(h api.Handle) api.Errno {
	if m.things[h] == nil {
		return api.ErrHandle
	}
	if h == 256 {
		return api.ErrOrder
	}
	if m.dying(h) {
		return api.ErrDying
	}
	if !m.save(h, true) {
		m.tear(h)
		m.remove(h)
	}
	return api.OK
}

// clear: what Clear should do.
func (m *model) clear(h api.Handle) api.Errno {
	if m.things[h] == nil {
		return api.ErrHandle
	}
	if m.things[h].kind == pool.Block {
		return api.ErrKind
	}
	if m.dying(h) {
		return api.ErrDying
	}
	m.save(h, false)
	m.tear(h)
	x := m.things[h]
	x.objects, x.own, x.held, x.dies = nil, 0, false, false
	return api.OK
}

// tear: a subtree dies, and is torn down.
func (m *model) tear(top api.Handle) {
	x := m.things[top]
	for _, h := range m.down(top) {
		m.things[h].dies = true
	}
	for len(x.entries[true]) > 0 {
		m.run(top, m.take(top, true, len(x.entries[true])-1))
	}
	for len(x.children) > 0 {
		last := x.children[len(x.children)-1]
		m.tear(last)
		m.remove(last)
	}
	for len(x.entries[false]) > 0 {
		m.run(top, m.take(top, false, len(x.entries[false])-1))
	}
}

// take: an entry leaves its list.
func (m *model) take(h api.Handle, pre bool, i int) clean.Entry {
	x := m.things[h]
	e := x.entries[pre][i]
	x.entries[pre] = slices.Concat(x.entries[pre][:i], x.entries[pre][i+1:])
	return e
}

// find: where an entry is.
func (m *model) find(h api.Handle, id uint64) (pre bool, i int) {
	for _, pre := range []bool{false, true} {
		for i, e := range m.things[h].entries[pre] {
			if e.ID == id {
				return pre, i
			}
		}
	}
	return false, -1
}

// add: an entry more.
func (m *model) add(h api.Handle, pre bool, e clean.Entry) (uint64, api.Errno) {
	room := map[bool]int{false: 8, true: 4}
	if len(m.things[h].entries[pre]) == room[pre] {
		return 0, api.ErrFull
	}
	m.serial++
	e.ID = m.serial
	m.things[h].entries[pre] = append(m.things[h].entries[pre], e)
	return e.ID, api.OK
}

// run: what an entry should do.
func (m *model) run(h api.Handle, e clean.Entry) {
	m.events = append(m.events, Event{h, e.Kind, e.Arg})
	x := m.things[h]
	switch n := int(e.Arg % 1000); {
	case e.Kind == 1 && x.kind == pool.Pool && !x.held && m.fits(h, n):
		x.objects, x.own = append(x.objects, n), x.own+n
	case e.Kind == 2 && e.Level < 4:
		m.add(h, false, clean.Entry{Level: e.Level + 1, Arg: e.Arg + 1})
	case e.Kind == 3:
		if pre, i := m.find(h, e.Arg); i >= 0 {
			m.take(h, pre, i)
		}
	case e.Kind == 4:
		m.destroy(api.Handle(e.Arg))
	}
}

// play is a forest, and what it should be; the numbers of a step follow from the one's ahead.
type play struct {
	t      *testing.T
	f      *pool.Forest
	m      *model
	events int
	nested int
	x      int
}

func (p *play) number(below int) int {
	p.x = (p.x*1103515245 + 12345) % (1 << 31)
	return p.x / 64 % below
}

// some: a handle, of a node but for now and then.
func (p *play) some() api.Handle {
	all := p.f.Handles()
	if p.number(30) == 0 {
		return all[p.number(len(all))] + 256*api.Handle(p.number(3))
	}
	return all[p.number(len(all))]
}

// create: a node more.
func (p *play) create() {
	parent, kind := p.some(), uint64(1+p.number(4)/3)
	n := p.number(20) * int(kind-1)
	h, e := p.f.Make(parent, kind, "", n)
	if e != api.OK {
		return
	}
	p.m.things[h] = &thing{kind: kind, own: n, limit: -1, entries: map[bool][]clean.Entry{}}
	if kind == pool.Block {
		p.m.things[h].objects = []int{n}
	}
	p.m.put(h, parent, len(p.m.things[parent].children))
}

// refer: a link more.
func (p *play) refer() {
	from, e := p.f.Node(p.some())
	to, f := p.f.Node(p.some())
	if e != api.OK || f != api.OK {
		return
	}
	p.m.serial++
	if refs.Tie(from, to, p.f.Serial()) == api.OK {
		x := p.m.things[api.Handle(to.Get(node.Handle))]
		x.holders = append(x.holders, refs.Link{Who: from.Get(node.Handle), Serial: p.m.serial})
	}
}

// turn: a limit, or whether a node's last object is held, or whether it dies, is another one.
func (p *play) turn() {
	h := p.some()
	n, e := p.f.Node(h)
	if e != api.OK {
		return
	}
	x := p.m.things[h]
	switch p.number(4) {
	case 0:
		x.limit = -1
		limit(p.t, p.f, h, -1)
	case 1:
		x.limit = p.m.sum(h) + p.number(1500)
		limit(p.t, p.f, h, x.limit)
	case 2:
		x.held = !x.held
		n.Hold(map[bool]int{false: 0, true: 1}[x.held])
	default:
		x.dies = p.number(12) == 0
		n.Set(node.State, map[bool]uint64{false: 0, true: 1}[x.dies])
	}
}

// arg: of an entry of that kind.
func (p *play) arg(kind uint8) uint64 {
	switch kind {
	case Killing:
		return p.m.serial - min(p.m.serial, uint64(p.number(40))) + 3
	case Destroying:
		return uint64(p.some())
	}
	return uint64(p.number(1 << 20))
}

// register: an entry more.
func (p *play) register() {
	h, pre, kind := p.some(), p.number(3) == 0, uint8(p.number(6))
	arg := p.arg(kind)
	var wanted uint64
	e := api.ErrHandle
	if p.m.things[h] != nil {
		wanted, e = p.m.add(h, pre, clean.Entry{Kind: kind, Arg: arg})
	}
	id, f := Register(p.f, h, pre, kind, arg)
	is(p.t, "Register", f, e)
	if id != wanted {
		p.t.Fatalf("the ID is %d, wanted %d", id, wanted)
	}
}

// entry: that of a node, but for now and then.
func (p *play) entry(h api.Handle) uint64 {
	all := append(Pending(p.f, h, false), Pending(p.f, h, true)...)
	if len(all) == 0 || p.number(9) == 0 {
		return uint64(p.number(int(p.m.serial + 3)))
	}
	return all[p.number(len(all))].ID
}

// kill: an entry less.
func (p *play) kill() {
	h := p.some()
	id, wanted := p.entry(h), api.ErrHandle
	if p.m.things[h] != nil {
		wanted = api.ErrNone
		if pre, i := p.m.find(h, id); i >= 0 {
			p.m.take(h, pre, i)
			wanted = api.OK
		}
	}
	is(p.t, "Kill", Kill(p.f, h, id), wanted)
}

// told: are a call's events those of the model?
func (p *play) told(what string, got []Event, e, wanted api.Errno) {
	p.t.Helper()
	is(p.t, what, e, wanted)
	if !slices.Equal(got, p.m.events) {
		p.t.Fatalf("%s tells %v, wanted %v", what, got, p.m.events)
	}
	p.events += len(got)
	for _, x := range got[:max(len(got)-1, 0)] {
		if x.Kind == Destroying {
			p.nested++
		}
	}
}

// leave: a node goes, or what is in it, or an entry is run.
func (p *play) leave() {
	h := p.some()
	p.m.events = nil
	switch p.number(3) {
	case 0:
		wanted := p.m.destroy(h)
		l, e := Destroy(p.f, h)
		p.told("Destroy", l, e, wanted)
	case 1:
		wanted := p.m.clear(h)
		l, e := Clear(p.f, h)
		p.told("Clear", l, e, wanted)
	default:
		id, wanted := p.entry(h), api.ErrHandle
		if p.m.things[h] != nil {
			wanted = api.ErrNone
			if pre, i := p.m.find(h, id); i >= 0 {
				p.m.run(h, p.m.take(h, pre, i))
				wanted = api.OK
			}
		}
		l, e := Run(p.f, h, id)
		p.told("Run", l, e, wanted)
	}
}

// agree: is the forest as it should be?
func (p *play) agree() {
	p.t.Helper()
	if l := p.f.Handles(); len(l) != len(p.m.things) {
		p.t.Fatalf("the handles are %v", l)
	}
	for h, x := range p.m.things {
		n := of(p.t, p.f, h)
		children(p.t, p.f, h, x.children...)
		charged(p.t, p.f, h, x.own, p.m.sum(h))
		pending(p.t, p.f, h, false, x.entries[false]...)
		pending(p.t, p.f, h, true, x.entries[true]...)
		reversed := slices.Clone(x.objects)
		slices.Reverse(reversed)
		sizes(p.t, p.f, h, reversed...)
		if (n.Get(node.State) != 0) != x.dies || (n.Held() != 0) != x.held || !slices.Equal(refs.Holders(n), x.holders) {
			p.t.Fatalf("%d: dies %d, held %d, holders %v, wanted %v", h, n.Get(node.State), n.Held(), refs.Holders(n), *x)
		}
		if n := limitOf(p.f, h); n != x.limit {
			p.t.Fatalf("the limit of %d is %d, wanted %d", h, n, x.limit)
		}
	}
}

// limitOf: a node's limit; -1 of none.
func limitOf(f *pool.Forest, h api.Handle) int {
	n, _ := f.Node(h)
	if most, some := f.Limit(n.Where()); some {
		return most
	}
	return -1
}

// step: something is done, in a forest that is opened anew now and then.
func (p *play) step() {
	switch k := p.number(20); {
	case k < 6 && len(p.m.things) < 40:
		p.create()
	case k < 12:
		p.register()
	case k < 14:
		p.refer()
	case k < 15:
		p.turn()
	case k < 16:
		p.kill()
	case k < 17:
		again, e := pool.Open(p.f.Arena)
		is(p.t, "Open", e, api.OK)
		p.f = again
	case k < 18 || len(p.m.things) > 12:
		p.leave()
	}
}

func TestAsTheChapterSays(t *testing.T) {
	p := &play{t: t, x: 27}
	for range 12 {
		p.f = fresh(t, 600)
		p.m = &model{things: map[api.Handle]*thing{256: {kind: pool.Pool, limit: -1, entries: map[bool][]clean.Entry{}}}}
		for range 400 {
			p.step()
			p.agree()
		}
	}
	if p.events < 500 || p.nested < 50 {
		t.Errorf("only %d events, %d of Destroying ahead of others", p.events, p.nested)
	}
}
