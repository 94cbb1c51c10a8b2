package usage

import (
	"slices"
	"testing"

	"millpond/api"
	"millpond/pool"
	"millpond/refs"
	"millpond/tear"
)

// thing is what a node should be: whose child, of which kind and name, with how many objects, bytes of its own and entries, referring to whom.
type thing struct {
	parent   api.Handle
	children []api.Handle
	kind     uint64
	name     string
	objects  int
	own      int
	entries  []uint64
	pres     []uint64
	targets  []api.Handle
}

// model is a forest, by what the chapters say of it, without an arena.
type model map[api.Handle]*thing

// report: the rows of a node that is so deep.
func (m model) report(h api.Handle, depth int) []Row {
	x := m[h]
	sum := Row{h, depth, x.kind, x.name, 1, x.objects, x.own, len(x.targets), len(x.entries) + len(x.pres)}
	var below []Row
	for _, child := range x.children {
		rows := m.report(child, depth+1)
		sum.Nodes += rows[0].Nodes
		sum.Objects += rows[0].Objects
		sum.Bytes += rows[0].Bytes
		sum.Refs += rows[0].Refs
		sum.Cleans += rows[0].Cleans
		below = append(below, rows...)
	}
	return append([]Row{sum}, below...)
}

// path: the names down to a node.
func (m model) path(h api.Handle) []string {
	if m[h].parent == 0 {
		return nil
	}
	return append(m.path(m[h].parent), m[h].name)
}

// lookup: where a path leads to, 0 is nowhere.
func (m model) lookup(path []string) api.Handle {
	h := api.Handle(256)
	for _, name := range path {
		i := slices.IndexFunc(m[h].children, func(child api.Handle) bool { return m[child].name == name })
		if i < 0 {
			return 0
		}
		h = m[h].children[i]
	}
	return h
}

// under: is a node in a subtree?
func (m model) under(h, top api.Handle) bool {
	for ; h != 0; h = m[h].parent {
		if h == top {
			return true
		}
	}
	return false
}

// put: a node is another one's last child, and no more a child of who was its parent.
func (m model) put(h, to api.Handle) {
	if above := m[m[h].parent]; above != nil {
		above.children = without(above.children, h)
	}
	m[h].parent = to
	m[to].children = append(m[to].children, h)
}

// without: handles but one.
func without(all []api.Handle, h api.Handle) []api.Handle {
	return slices.DeleteFunc(all, func(x api.Handle) bool { return x == h })
}

// remove: a node is gone, and whoever referred to it doesn't.
func (m model) remove(h api.Handle) {
	above := m[m[h].parent]
	above.children = without(above.children, h)
	delete(m, h)
	for _, x := range m {
		x.targets = without(x.targets, h)
	}
}

// play is a forest, and what it should be; the numbers of a step follow from the one's ahead.
type play struct {
	t *testing.T
	f *pool.Forest
	m model
	x int
}

func (p *play) number(below int) int {
	p.x = (p.x*1103515245 + 12345) % (1 << 31)
	return p.x / 64 % below
}

// some: a node's handle.
func (p *play) some() api.Handle {
	all := p.f.Handles()
	return all[p.number(len(all))]
}

// create: a node more. There are few names, so that some have the same.
func (p *play) create() {
	parent, kind := p.some(), uint64(1+p.number(2))
	n, name := p.number(100)*int(kind-1), []string{"", "a", "b", "c d"}[p.number(4)]
	h, e := p.f.Make(parent, kind, name, n)
	if e != api.OK {
		return
	}
	p.m[h] = &thing{kind: kind, name: name, own: n, objects: int(kind - 1)}
	p.m.put(h, parent)
}

// object: an object more, or the last one less, of a pool.
func (p *play) object(h api.Handle) {
	n, x := of(p.t, p.f, h), p.m[h]
	if x.kind == pool.Block {
		return
	}
	if p.number(3) > 0 {
		alloc(p.t, p.f, h, p.number(2000))
		x.objects++
	} else if x.objects > 0 {
		is(p.t, "Free", n.Free(n.Mark()), api.OK)
		x.objects--
	}
}

// charge: a node is charged with more, or less.
func (p *play) charge(h api.Handle) {
	n := p.number(200) - 100
	if p.f.Charge(of(p.t, p.f, h).Where(), n) == api.OK {
		p.m[h].own += n
	}
}

// entry: one more, or one less.
func (p *play) entry(h api.Handle) {
	pre := p.number(2) == 0
	l := &p.m[h].entries
	if pre {
		l = &p.m[h].pres
	}
	if len(*l) > 0 && p.number(3) == 0 {
		i := p.number(len(*l))
		is(p.t, "Kill", tear.Kill(p.f, h, (*l)[i]), api.OK)
		*l = slices.Delete(*l, i, i+1)
		return
	}
	if id, e := tear.Register(p.f, h, pre, tear.Note, 1); e == api.OK {
		*l = append(*l, id)
	}
}

// refer: a link more, or one less.
func (p *play) refer(h api.Handle) {
	to := p.some()
	from, other := of(p.t, p.f, h), of(p.t, p.f, to)
	if p.number(3) > 0 {
		if refs.Tie(from, other, p.f.Serial()) == api.OK {
			p.m[h].targets = append(p.m[h].targets, to)
		}
	} else if refs.Untie(from, other) == api.OK {
		p.m[h].targets = without(p.m[h].targets, to)
	}
}

// steal: a node is moved.
func (p *play) steal(h api.Handle) {
	to := p.some()
	if h != 256 && !p.m.under(to, h) {
		is(p.t, "Move", p.f.Move(of(p.t, p.f, h).Where(), of(p.t, p.f, to).Where()), api.OK)
		p.m.put(h, to)
	}
}

// step: something is done.
func (p *play) step() {
	h := p.some()
	switch p.number(9) {
	case 0, 1:
		p.create()
	case 2:
		p.object(h)
	case 3:
		p.charge(h)
	case 4, 5:
		p.entry(h)
	case 6:
		p.refer(h)
	case 7:
		p.steal(h)
	default:
		if p.f.Remove(h) == api.OK {
			p.m.remove(h)
		}
	}
}

// agree: is what is told of a node what it should be, and of a path that is made up?
func (p *play) agree(h api.Handle) {
	p.t.Helper()
	reports(p.t, p.f, h, p.m.report(h, 0)...)
	path := p.m.path(h)
	names(p.t, p.f, h, path...)
	if p.number(3) == 0 && len(path) > 0 {
		path[p.number(len(path))] = []string{"", "a", "e"}[p.number(3)]
	}
	if h := p.m.lookup(path); h != 0 {
		found(p.t, p.f, h, path...)
	} else {
		none(p.t, p.f, path...)
	}
}

func TestAsTheChapterSays(t *testing.T) {
	p := &play{t: t, f: fresh(t, 400), m: model{256: {kind: pool.Pool}}, x: 29}
	for i := range 1200 {
		p.step()
		if i%4 == 0 {
			p.agree(p.some())
		}
		if i%40 == 0 {
			p.agree(256)
			again, e := pool.Open(p.f.Arena)
			is(t, "Open", e, api.OK)
			p.f = again
		}
	}
	if len(p.m) < 30 {
		t.Errorf("there are %d nodes", len(p.m))
	}
}

// P29.4: what each row tells is what its node has alone, and the rows of its children; all of it is the ground's.
func TestRowsAreTheSumsOfRows(t *testing.T) {
	p := &play{t: t, f: fresh(t, 400), m: model{256: {kind: pool.Pool}}, x: 4}
	for range 500 {
		p.step()
	}
	rows, e := Report(p.f, 256)
	is(t, "Report", e, api.OK)
	total := Row{}
	for i, r := range rows {
		x := p.m[r.Handle]
		sum := Row{r.Handle, r.Depth, r.Kind, r.Name, 1, x.objects, x.own, len(x.targets), len(x.entries) + len(x.pres)}
		total.Nodes, total.Objects, total.Bytes, total.Refs, total.Cleans = total.Nodes+1, total.Objects+sum.Objects, total.Bytes+sum.Bytes, total.Refs+sum.Refs, total.Cleans+sum.Cleans
		for _, below := range rows[i+1:] {
			if below.Depth <= r.Depth {
				break
			}
			if below.Depth == r.Depth+1 {
				sum.Nodes, sum.Objects, sum.Bytes, sum.Refs, sum.Cleans = sum.Nodes+below.Nodes, sum.Objects+below.Objects, sum.Bytes+below.Bytes, sum.Refs+below.Refs, sum.Cleans+below.Cleans
			}
		}
		if sum != r {
			t.Errorf("the row is %v, wanted %v", r, sum)
		}
		// A node's own report is the same, but for the depth.
		own, _ := Report(p.f, r.Handle)
		own[0].Depth = r.Depth
		if own[0] != r {
			t.Errorf("the row is %v, wanted %v", r, own[0])
		}
	}
	total.Handle, total.Kind = 256, pool.Pool
	if rows[0] != total || total.Nodes != len(p.f.Handles()) || total.Objects == 0 || total.Refs == 0 || total.Cleans == 0 || total.Bytes == 0 {
		t.Errorf("the ground has %v, wanted %v", rows[0], total)
	}
}
