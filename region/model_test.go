package region

import (
	"slices"
	"strings"
	"testing"

	"millpond/api"
	"millpond/census"
	"millpond/chunk"
	"millpond/object"
	"millpond/recycler"
)

// thing is an object as the model has it, and in which chunk it stands.
type thing struct {
	at, in int
	bytes  string
}

// model is one region as its chapter's words have it; its chunks are those of a recycler that is alike.
type model struct {
	owner  uint64
	front  int
	held   int
	chunks []chunk.Chunk // the newest first
	things []thing       // the last one first
}

// up: the least multiple that isn't less.
func up(n, align int) int {
	for n%align != 0 {
		n++
	}
	return n
}

func aligned(align int) bool {
	return slices.Contains([]int{1, 2, 4, 8, 16, 32, 64}, align)
}

// take: a new chunk, of the least order that has room behind its first bytes; where an object stands there.
func (m *model) take(r *recycler.Recycler, first, n, align int) (int, api.Errno) {
	for order := range 11 {
		if up(first+16, align)+n > 4096<<order {
			continue
		}
		c, e := r.Take(order, m.owner)
		if e != api.OK {
			return 0, e
		}
		m.chunks = slices.Insert(m.chunks, 0, c)
		return c.At + up(first+16, align), api.OK
	}
	return 0, api.ErrArg
}

func (m *model) alloc(r *recycler.Recycler, n, align int) (int, api.Errno) {
	if m.held != 0 {
		return 0, api.ErrOpen
	}
	if n < 0 || !aligned(align) {
		return 0, api.ErrArg
	}
	at, e := m.place(r, n, align)
	if e == api.OK {
		m.things = slices.Insert(m.things, 0, thing{at, m.chunks[0].At, strings.Repeat("\x00", n)})
	}
	return at, e
}

func (m *model) place(r *recycler.Recycler, n, align int) (int, api.Errno) {
	if len(m.chunks) == 0 {
		return m.take(r, m.front, n, align)
	}
	c := m.chunks[0]
	behind := c.At + 32
	if len(m.chunks) == 1 {
		behind = c.At + m.front
	}
	if len(m.things) > 0 && m.things[0].in == c.At {
		behind = m.things[0].at + len(m.things[0].bytes)
	}
	if at := up(behind+16, align); at+n <= c.At+4096<<c.Order {
		return at, api.OK
	}
	return m.take(r, 32, n, align)
}

// keep: the things from the i-th one on are left, and the chunks behind the last one's are given back.
func (m *model) keep(r *recycler.Recycler, i int) {
	m.things = m.things[i:]
	for len(m.chunks) > 1 && (len(m.things) == 0 || m.things[0].in != m.chunks[0].At) {
		r.Give(m.chunks[0].At)
		m.chunks = m.chunks[1:]
	}
}

func (m *model) free(r *recycler.Recycler, at int) api.Errno {
	if m.held != 0 {
		return api.ErrOpen
	}
	i := slices.IndexFunc(m.things, func(x thing) bool { return x.at == at })
	if i < 0 {
		return api.ErrNone
	}
	m.keep(r, i+1)
	return api.OK
}

func (m *model) release(r *recycler.Recycler, mark int) api.Errno {
	if m.held != 0 {
		return api.ErrOpen
	}
	i := slices.IndexFunc(m.things, func(x thing) bool { return x.at == mark })
	if mark == 0 {
		i = len(m.things)
	}
	if i < 0 {
		return api.ErrNone
	}
	m.keep(r, i)
	return api.OK
}

func (m *model) resize(r *recycler.Recycler, n, align int) (int, api.Errno) {
	if len(m.things) == 0 {
		return 0, api.ErrEmpty
	}
	x := &m.things[0]
	if n < 0 || !aligned(align) || x.at%align != 0 {
		return 0, api.ErrArg
	}
	own := slices.IndexFunc(m.chunks, func(c chunk.Chunk) bool { return c.At == x.in })
	if c := m.chunks[own]; x.at+n > c.At+4096<<c.Order {
		at, e := m.take(r, 32, n, align)
		if e != api.OK {
			return 0, e
		}
		x.at, x.in = at, m.chunks[0].At
		if own+2 < len(m.chunks) && (len(m.things) == 1 || m.things[1].in != c.At) {
			r.Give(c.At)
			m.chunks = slices.Delete(m.chunks, own+1, own+2)
		}
	}
	x.bytes = (x.bytes + strings.Repeat("\x00", max(n-len(x.bytes), 0)))[:n]
	return x.at, api.OK
}

// join: a chunk of the owner's that isn't in the chain is the newest one.
func (m *model) join(r *recycler.Recycler, order int) api.Errno {
	c, e := r.Take(order, m.owner)
	if e == api.OK {
		m.chunks = slices.Insert(m.chunks, 0, c)
	}
	return e
}

// join: so it is of a region.
func join(g Region, order int) api.Errno {
	c, e := g.Take(order, g.Owner())
	if e != api.OK {
		return e
	}
	return g.Join(c.At)
}

// play is regions and their models, of which the same is asked.
type play struct {
	t    *testing.T
	r    *recycler.Recycler
	twin *recycler.Recycler // the models' one
	all  []*model
	most int // how great objects are
	x    int // the numbers of a step follow from the one's ahead
}

func (p *play) number(below int) int {
	p.x = (p.x*1103515245 + 12345) % (1 << 31)
	return p.x / 64 % below
}

func (p *play) bytes() int {
	return []int{p.number(20), p.number(300), p.number(5000), p.number(p.most), 4048, 4049, 0, -p.number(3)}[p.number(8)]
}

func (p *play) align() int {
	return []int{1, 2, 4, 8, 16, 32, 64, p.number(70)}[p.number(8)]
}

// some: an object's address, or another one.
func (p *play) some(m *model) int {
	if len(m.things) == 0 || p.number(8) == 0 {
		return p.number(3) * p.number(1<<16)
	}
	return m.things[p.number(min(len(m.things), 6+len(m.things)/4))].at
}

// store: in one of the objects other bytes are laid.
func (p *play) store(g Region, m *model) {
	if len(m.things) == 0 {
		return
	}
	x := &m.things[p.number(len(m.things))]
	x.bytes = strings.Repeat(string([]byte{byte(p.number(255) + 1)}), len(x.bytes))
	is(p.t, "Put", g.Put(x.at, x.bytes), api.OK)
}

// passer: somebody else has a chunk for a while, and leaves other bytes in it.
func (p *play) passer() {
	order := p.number(4)
	c, e := p.r.Take(order, 99)
	d, f := p.twin.Take(order, 99)
	is(p.t, "Take", e, f)
	if e == api.OK {
		is(p.t, "Fill", p.r.Fill(c.At+32, 4096<<c.Order-32, 'p'), api.OK)
		is(p.t, "Give", p.r.Give(c.At), p.twin.Give(d.At))
	}
}

func (p *play) step(i int) {
	g, m := open(p.t, p.r, i, p.all[i].front), p.all[i]
	var at, to int
	e, f := api.OK, api.OK
	switch n := p.number(42); {
	case n < 17:
		n, align := p.bytes(), p.align()
		at, e = g.Alloc(n, align)
		to, f = m.alloc(p.twin, n, align)
	case n < 24:
		n, align := p.bytes(), p.align()
		at, e = g.Resize(n, align)
		to, f = m.resize(p.twin, n, align)
	case n < 27:
		at := p.some(m)
		e, f = g.Free(at), m.free(p.twin, at)
	case n < 29:
		at := p.some(m)
		e, f = g.Release(at), m.release(p.twin, at)
	case n == 29:
		m.held = 0
		m.keep(p.twin, len(m.things))
		g.Empty()
	case n < 32:
		m.held = p.number(2) * p.number(70)
		g.Hold(m.held)
	case n == 32:
		pages := p.number(30)
		p.r.Keep(pages)
		p.twin.Keep(pages)
	case n == 33:
		after := p.number(3)
		p.r.Refuse(after)
		p.twin.Refuse(after)
	case n == 34:
		p.r = anew(p.t, p.r.Clone())
	case n == 35:
		p.passer()
	case n < 38:
		order := p.number(4)
		e, f = join(g, order), m.join(p.twin, order)
	default:
		p.store(g, m)
	}
	if at != to || e != f {
		p.t.Fatalf("at %d, error %d, wanted %d, error %d", at, e, to, f)
	}
}

// look: do all regions tell what they should, and are all objects' bytes their own?
func (p *play) look() {
	p.t.Helper()
	for i, m := range p.all {
		g := open(p.t, p.r, i, m.front)
		var wanted []object.Object
		prev := 0
		for _, x := range slices.Backward(m.things) {
			wanted = append(wanted, object.Object{At: x.at, Size: len(x.bytes), Prev: prev})
			prev = x.at
			holds(p.t, g, x.at, x.bytes)
		}
		slices.Reverse(wanted)
		tells(p.t, g, wanted...)
		var chunks []int
		for _, c := range m.chunks {
			chunks = append(chunks, c.At)
		}
		in(p.t, g, chunks...)
		if g.Held() != m.held {
			p.t.Fatalf("it is held for %d, wanted %d", g.Held(), m.held)
		}
	}
	if !slices.Equal(p.r.Runs(), p.twin.Runs()) || p.r.Cached() != p.twin.Cached() {
		p.t.Fatalf("the runs are %v, wanted %v", p.r.Runs(), p.twin.Runs())
	}
}

func TestAsTheChapterSays(t *testing.T) {
	for _, k := range []struct{ cap, regions, most, steps int }{{1, 1, 100, 300}, {5, 2, 5000, 1500}, {20, 3, 10000, 3000}, {40, 2, 40000, 3000}, {200, 4, 100000, 3000}, {700, 3, 1 << 20, 800}} {
		p := &play{t: t, r: fresh(t, k.cap), twin: fresh(t, k.cap), most: k.most, x: k.cap}
		for i := range k.regions {
			p.all = append(p.all, &model{owner: uint64(i + 1), front: []int{32, 1024, 4096, 77}[i]})
		}
		for range k.steps {
			p.step(p.number(k.regions))
			p.look()
		}
		// When all is given back, and trimmed, nothing is taken but the run of the views.
		for i, m := range p.all {
			g := open(t, p.r, i, m.front)
			g.Empty()
			g.Clear()
		}
		p.r.Trim()
		if census.Count(p.r.Buddy, census.Taken) != 1 {
			t.Errorf("of %d pages: not all is given back", k.cap)
		}
	}
}
