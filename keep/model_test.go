package keep

import (
	"slices"
	"testing"

	"millpond/api"
	"millpond/node"
	"millpond/pool"
	"millpond/refs"
)

// thing is what a node should be: whose child, with which bytes and limit (below 0: none), held by whom, since when.
type thing struct {
	parent   api.Handle
	children []api.Handle
	bytes    int
	limit    int
	dies     bool
	holders  []refs.Link
}

// model is a forest, by what the chapters say of it, without an arena.
type model map[api.Handle]*thing

// under: is a node in a subtree?
func (m model) under(h, top api.Handle) bool {
	for ; h != 0; h = m[h].parent {
		if h == top {
			return true
		}
	}
	return false
}

// down: a subtree, parents first.
func (m model) down(top api.Handle) []api.Handle {
	all := []api.Handle{top}
	for _, child := range m[top].children {
		all = append(all, m.down(child)...)
	}
	return all
}

// sum: of all bytes of a subtree.
func (m model) sum(top api.Handle) int {
	n := 0
	for _, h := range m.down(top) {
		n += m[h].bytes
	}
	return n
}

// savers: the holders of a node of the subtree that goes that are outside, and don't die.
func (m model) savers(h, top api.Handle) []api.Handle {
	var all []api.Handle
	for _, x := range m[h].holders {
		who := api.Handle(x.Who)
		if m.under(h, top) && !m.under(who, top) && !m[who].dies {
			all = append(all, who)
		}
	}
	return all
}

// put: a node is another one's last child.
func (m model) put(h, to api.Handle) {
	old := m[m[h].parent]
	old.children = slices.DeleteFunc(old.children, func(child api.Handle) bool { return child == h })
	m[h].parent = to
	m[to].children = append(m[to].children, h)
}

// move: it is moved, if no limit is in the way of those that are above it then.
func (m model) move(h, to api.Handle) bool {
	was, place := m[h].parent, slices.Index(m[m[h].parent].children, h)
	above := map[api.Handle]bool{}
	for at := was; at != 0; at = m[at].parent {
		above[at] = true
	}
	m.put(h, to)
	for at := to; at != 0; at = m[at].parent {
		if limit := m[at].limit; limit >= 0 && !above[at] && m.sum(at) > limit {
			m[to].children = m[to].children[:len(m[to].children)-1]
			m[h].parent = was
			m[was].children = slices.Insert(m[was].children, place, h)
			return false
		}
	}
	return true
}

// once: each node of the subtree is looked at.
func (m model) once(top api.Handle, whole bool) []Kept {
	var all []Kept
	for _, h := range m.down(top) {
		if h == top && !whole || !m.under(h, top) {
			continue
		}
		for _, to := range m.savers(h, top) {
			if m.move(h, to) {
				all = append(all, Kept{h, to})
				break
			}
		}
		if len(all) > 0 && all[0].Node == top {
			break
		}
	}
	return all
}

// save: as long as somebody is moved, so once more.
func (m model) save(top api.Handle, whole bool) []Kept {
	var all []Kept
	for {
		some := m.once(top, whole)
		all = append(all, some...)
		if len(some) == 0 || some[0].Node == top {
			return all
		}
	}
}

// play is a forest, and what it should be; the numbers of a step follow from the one's ahead.
type play struct {
	t     *testing.T
	f     *pool.Forest
	m     model
	moved int
	x     int
}

func (p *play) number(below int) int {
	p.x = (p.x*1103515245 + 12345) % (1 << 31)
	return p.x / 64 % below
}

// some: a node.
func (p *play) some() api.Handle {
	all := p.f.Handles()
	return all[p.number(len(all))]
}

// lay: a forest with so many nodes, some of which are blocks, deep or not.
func (p *play) lay(many int) {
	p.f = fresh(p.t, 100)
	p.m = model{256: {limit: -1}}
	deep := p.number(4)
	for range many {
		parent, kind := p.some(), uint64(1+p.number(2))
		if deep > 0 {
			all := p.f.Handles()
			parent = all[len(all)-1-p.number(min(len(all), deep*3))]
		}
		n := p.number(10) * int(kind-1)
		h, e := p.f.Make(parent, kind, "", n)
		is(p.t, "Make", e, api.OK)
		p.m[h] = &thing{bytes: n, limit: -1, parent: parent}
		p.m[parent].children = append(p.m[parent].children, h)
	}
}

// bind: so many links, of serials that don't rise, and some limits, and some nodes that die.
func (p *play) bind(links, limits, dying int) {
	for range links {
		from, to, serial := p.some(), p.some(), uint64(1+p.number(1000))
		if refs.Tie(of(p.t, p.f, from), of(p.t, p.f, to), serial) == api.OK {
			all := append(p.m[to].holders, refs.Link{Who: uint64(from), Serial: serial})
			slices.SortStableFunc(all, func(a, b refs.Link) int { return int(a.Serial) - int(b.Serial) })
			p.m[to].holders = all
		}
	}
	for range limits {
		h := p.some()
		n := p.m.sum(h) + p.number(12)
		limit(p.t, p.f, h, n)
		p.m[h].limit = n
	}
	for range dying {
		h := p.some()
		dies(p.t, p.f, h)
		p.m[h].dies = true
	}
}

// agree: is the forest as it should be?
func (p *play) agree() {
	p.t.Helper()
	for h, x := range p.m {
		n := of(p.t, p.f, h)
		children(p.t, p.f, h, x.children...)
		if x.parent != 0 && p.f.Parent(n.Where()) != of(p.t, p.f, x.parent).Where() {
			p.t.Fatalf("%d has another parent", h)
		}
		if p.f.Own(n.Where()) != x.bytes || p.f.Sum(n.Where()) != p.m.sum(h) || (n.Get(node.State) != 0) != x.dies {
			p.t.Fatalf("%d is charged with %d, in all %d", h, p.f.Own(n.Where()), p.f.Sum(n.Where()))
		}
		if !slices.Equal(refs.Holders(n), x.holders) {
			p.t.Fatalf("%d is held by %v, wanted %v", h, refs.Holders(n), x.holders)
		}
	}
	if len(p.f.Handles()) != len(p.m) {
		p.t.Fatalf("the handles are %v", p.f.Handles())
	}
}

// settled: whoever is in the subtree yet can be moved to none of its savers.
func (p *play) settled(top api.Handle, whole bool) {
	p.t.Helper()
	twin, e := pool.Open(p.f.Clone())
	is(p.t, "Open", e, api.OK)
	for _, h := range p.m.down(top) {
		if h == top && !whole {
			continue
		}
		for _, to := range Savers(p.f, h, top) {
			is(p.t, "Move", twin.Move(of(p.t, twin, h).Where(), of(p.t, twin, to).Where()), api.ErrLimit)
		}
	}
}

// save: a subtree goes, whole or not.
func (p *play) save() {
	top, all := p.some(), p.number(2) == 0
	for h := range p.m {
		if got, wanted := Savers(p.f, h, top), p.m.savers(h, top); !slices.Equal(got, wanted) {
			p.t.Fatalf("%d is saved by %v when %d goes, wanted %v", h, got, top, wanted)
		}
	}
	wanted := p.m.save(top, all)
	moves(p.t, p.f, top, all, wanted...)
	p.agree()
	p.moved += len(wanted)
	if len(wanted) == 0 || wanted[len(wanted)-1].Node != top {
		p.settled(top, all)
	}
}

func TestAsTheChapterSays(t *testing.T) {
	p := &play{t: t, x: 26}
	for i := range 80 {
		p.lay(5 + i%40)
		p.bind(p.number(120), p.number(8), p.number(4))
		p.agree()
		for range 4 {
			p.save()
		}
	}
	if p.moved < 200 {
		t.Errorf("only %d were moved", p.moved)
	}
}
