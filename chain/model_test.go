package chain

import (
	"slices"
	"strings"
	"testing"

	"millpond/api"
	"millpond/census"
	"millpond/chunk"
	"millpond/recycler"
)

// model is some chains as their chapter's words have them, over a recycler of their own that is alike.
type model struct {
	r      *recycler.Recycler
	chains [][]chunk.Chunk // the newest first; of Next nothing is said here
	alone  [][]chunk.Chunk // what each owner has beside its chain
}

func (m *model) push(i, order int) api.Errno {
	x, e := m.r.Take(order, uint64(i+1))
	if e == api.OK {
		m.chains[i] = slices.Insert(m.chains[i], 0, x)
	}
	return e
}

// drop: the k-th chunk of a chain is given back.
func (m *model) drop(i, k int) api.Errno {
	if len(m.chains[i]) <= k {
		return api.ErrEmpty
	}
	m.r.Give(m.chains[i][k].At)
	m.chains[i] = slices.Delete(m.chains[i], k, k+1)
	return api.OK
}

func (m *model) clear(i int) int {
	n := len(m.chains[i])
	for len(m.chains[i]) > 0 {
		m.drop(i, 0)
	}
	return n
}

func (m *model) join(i, at int) api.Errno {
	x, e := chunk.Read(m.r.Arena, at)
	if e != api.OK {
		return e
	}
	if x.Owner != uint64(i+1) {
		return api.ErrOrder
	}
	k := slices.IndexFunc(m.alone[i], func(y chunk.Chunk) bool { return y.At == at })
	if k < 0 {
		return api.ErrThere
	}
	m.chains[i] = slices.Insert(m.chains[i], 0, m.alone[i][k])
	m.alone[i] = slices.Delete(m.alone[i], k, k+1)
	return api.OK
}

// play is chains and their model, of which the same is asked.
type play struct {
	t *testing.T
	r *recycler.Recycler
	m *model
	x int // the numbers of a step follow from the one's ahead
}

func (p *play) number(below int) int {
	p.x = (p.x*1103515245 + 12345) % (1 << 31)
	return p.x / 64 % below
}

// fill: a chunk's bytes behind its header are an owner's.
func (p *play) fill(x chunk.Chunk) {
	is(p.t, "Fill", p.r.Fill(x.At+api.Head, api.Page<<x.Order-api.Head, byte(x.Owner)), api.OK)
}

func (p *play) push(i, order int) {
	x, e := open(p.t, p.r, i, uint64(i+1)).Push(order)
	is(p.t, "Push", e, p.m.push(i, order))
	if e != api.OK && x != (chunk.Chunk{}) || e == api.OK && x.At != p.m.chains[i][0].At {
		p.t.Fatalf("Push: %v, error %d", x, e)
	}
	if e == api.OK {
		p.fill(x)
	}
}

// take: an owner has a chunk that is in no chain.
func (p *play) take(i, order int) {
	x, e := p.r.Take(order, uint64(i+1))
	y, f := p.m.r.Take(order, uint64(i+1))
	is(p.t, "Take", e, f)
	if e == api.OK {
		p.fill(x)
		p.m.alone[i] = append(p.m.alone[i], y)
	}
}

func (p *play) step(most int) {
	i := p.number(len(p.m.chains))
	c := open(p.t, p.r, i, uint64(i+1))
	switch n := p.number(32); {
	case n < 9:
		p.push(i, p.number(most+1))
	case n < 12:
		p.take(i, p.number(most+1))
	case n < 17:
		at := p.number(p.r.Cap()) * api.Page
		if some := p.m.alone[i]; len(some) > 0 && p.number(4) > 0 {
			at = some[p.number(len(some))].At
		}
		is(p.t, "Join", c.Join(at), p.m.join(i, at))
	case n < 23:
		is(p.t, "Drop", c.Drop(), p.m.drop(i, 0))
	case n < 28:
		is(p.t, "DropNext", c.DropNext(), p.m.drop(i, 1))
	case n == 28:
		if got, wanted := c.Clear(), p.m.clear(i); got != wanted {
			p.t.Fatalf("Clear: %d, wanted %d", got, wanted)
		}
	case n == 29:
		pages := p.number(40)
		p.r.Keep(pages)
		p.m.r.Keep(pages)
	case n == 30:
		p.r = anew(p.t, p.r.Clone())
	default:
		p.r = anew(p.t, p.r.Arena)
	}
}

// look: do all chains tell what they should, and are their chunks' bytes their own?
func (p *play) look() {
	p.t.Helper()
	for i, wanted := range p.m.chains {
		c := open(p.t, p.r, i, uint64(i+1))
		has(p.t, c, slices.Clone(wanted)...)
		for _, x := range append(slices.Clone(wanted), p.m.alone[i]...) {
			n := api.Page<<x.Order - api.Head
			if s, e := p.r.Bytes(x.At+api.Head, n); e != api.OK || s != strings.Repeat(string([]byte{byte(i + 1)}), n) {
				p.t.Fatalf("other bytes stand in %v", x)
			}
		}
	}
	if !slices.Equal(p.r.Runs(), p.m.r.Runs()) || p.r.Cached() != p.m.r.Cached() || !census.Right(p.r.Buddy) {
		p.t.Fatalf("the runs are %v, wanted %v", p.r.Runs(), p.m.r.Runs())
	}
	for order := range api.MaxBin + 1 {
		if got, wanted := p.r.Bins().All(order), p.m.r.Bins().All(order); !slices.Equal(got, wanted) {
			p.t.Fatalf("of order %d are cached %v, wanted %v", order, got, wanted)
		}
	}
}

func TestAsTheChapterSays(t *testing.T) {
	for _, k := range []struct{ cap, chains, most, steps int }{{1, 1, 0, 100}, {5, 2, 1, 600}, {20, 3, 2, 1500}, {40, 5, 3, 1500}, {100, 8, 4, 1500}, {600, 4, 6, 600}} {
		m := &model{fresh(t, k.cap), make([][]chunk.Chunk, k.chains), make([][]chunk.Chunk, k.chains)}
		p := &play{t: t, r: fresh(t, k.cap), m: m, x: k.cap}
		for range k.steps {
			p.step(k.most)
			p.look()
		}
		// When all is given back, and trimmed, nothing is taken but the run of the views.
		for i := range k.chains {
			c := open(t, p.r, i, uint64(i+1))
			for _, x := range m.alone[i] {
				is(t, "Join", c.Join(x.At), api.OK)
			}
			if n := len(m.chains[i]) + len(m.alone[i]); c.Clear() != n {
				t.Errorf("Clear: not %d", n)
			}
		}
		p.r.Trim()
		if census.Count(p.r.Buddy, census.Taken) != 1 {
			t.Errorf("of %d pages: not all is given back", k.cap)
		}
	}
}
