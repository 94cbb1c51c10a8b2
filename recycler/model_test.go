package recycler

import (
	"math"
	"slices"
	"strings"
	"testing"

	"millpond/api"
	"millpond/arena"
	"millpond/buddy"
	"millpond/census"
	"millpond/chunk"
)

// model is a recycler as its chapter's words have it, beside a buddy of its own that is alike.
type model struct {
	b     *buddy.Buddy
	keeps int
	bins  [api.MaxBin + 1][]int // the newest first
}

func (m *model) cached() int {
	n := 0
	for order, all := range m.bins {
		n += len(all) << order
	}
	return n
}

func (m *model) trim() int {
	n := m.cached()
	for order, all := range m.bins {
		for _, at := range all {
			m.b.Free(at)
		}
		m.bins[order] = nil
	}
	return n
}

func (m *model) keep(pages int) {
	m.keeps = max(pages, 0)
	if m.cached() > m.keeps {
		m.trim()
	}
}

func (m *model) take(order int) (at, k int, e api.Errno) {
	for k := order; k <= api.MaxBin; k++ {
		if all := m.bins[k]; len(all) > 0 {
			m.bins[k] = all[1:]
			return all[0], k, api.OK
		}
	}
	at, e = m.b.Alloc(order)
	if e == api.ErrNoMemory && m.cached() > 0 {
		m.trim()
		at, e = m.b.Alloc(order)
	}
	return at, order, e
}

func (m *model) give(at, order int) {
	if order > api.MaxBin || m.cached()+1<<order > m.keeps {
		m.b.Free(at)
		return
	}
	m.bins[order] = slices.Insert(m.bins[order], 0, at)
}

// play is a recycler and its model, of which the same is asked, and what is owned.
type play struct {
	t     *testing.T
	r     *Recycler
	m     *model
	owned []chunk.Chunk
	at    int // where the recycler's view is
	x     int // the numbers of a step follow from the one's ahead
}

func (p *play) number(below int) int {
	p.x = (p.x*1103515245 + 12345) % (1 << 31)
	return p.x / 64 % below
}

func (p *play) take(order int) {
	owner := uint64(1 + p.number(9))
	can := census.Can(p.r.Buddy, order)
	c, e := p.r.Take(order, owner)
	at, k, f := p.m.take(order)
	wanted := chunk.Chunk{}
	if f == api.OK {
		wanted = chunk.Chunk{At: at, Order: k, Owner: owner}
		p.owned = append(p.owned, wanted)
		is(p.t, "Fill", p.r.Fill(at+api.Head, api.Page<<k-api.Head, byte(at/api.Page)), api.OK)
	}
	if e != f || c != wanted {
		p.t.Fatalf("Take(%d, %d): %v, error %d, wanted %v, error %d", order, owner, c, e, wanted, f)
	}
	// There is no memory only where there is none (but for Commits that are refused, which this play never does twice).
	if e != api.OK && (can || p.r.Cached() > 0) {
		p.t.Fatalf("Take(%d): error %d, but there is room", order, e)
	}
}

// give: what is owned has all its bytes till then.
func (p *play) give(i int) {
	c := p.owned[i]
	s := bytes(p.t, p.r.Arena, c.At+api.Head, api.Page<<c.Order-api.Head)
	if s != strings.Repeat(string([]byte{byte(c.At / api.Page)}), len(s)) {
		p.t.Fatalf("other bytes stand in %v", c)
	}
	is(p.t, "Give", p.r.Give(c.At), api.OK)
	p.m.give(c.At, c.Order)
	p.owned = slices.Delete(p.owned, i, i+1)
	if e := p.r.Give(c.At); e != api.ErrOrder && e != api.ErrKind {
		p.t.Fatalf("Give of %v, again: error %d", c, e)
	}
}

// open: it is opened anew, now and then over a clone.
func (p *play) open() {
	a := p.r.Arena
	if p.number(2) == 0 {
		a = a.Clone()
	}
	b, e := buddy.Open(a)
	is(p.t, "buddy.Open", e, api.OK)
	p.r, e = Open(b, of(p.t, b, p.at, 64+p.number(9)))
	is(p.t, "Open", e, api.OK)
}

func (p *play) step(most int) {
	switch n := p.number(32); {
	case n < 13:
		p.take(p.number(p.number(most+1) + 1))
	case n < 26 && len(p.owned) > 0:
		p.give(p.number(len(p.owned)))
	case n == 26:
		pages := p.number(40) - 2
		p.r.Keep(pages)
		p.m.keep(pages)
	case n == 27:
		if got, wanted := p.r.Trim(), p.m.trim(); got != wanted {
			p.t.Fatalf("Trim: %d, wanted %d", got, wanted)
		}
	case n == 28:
		if got, wanted := p.r.Shrink(), p.m.b.Shrink(); got != wanted {
			p.t.Fatalf("Shrink: %d, wanted %d", got, wanted)
		}
	case n >= 29:
		p.open()
	}
}

// look: does all tell what it should, and does a header stand just where a chunk is?
func (p *play) look() {
	p.t.Helper()
	if p.r.Cached() != p.m.cached() || p.r.Keeps() != p.m.keeps {
		p.t.Fatalf("cached are %d, wanted %d; it keeps %d, wanted %d", p.r.Cached(), p.m.cached(), p.r.Keeps(), p.m.keeps)
	}
	if !slices.Equal(p.r.Runs(), p.m.b.Runs()) || p.r.Grown() != p.m.b.Grown() || !census.Right(p.r.Buddy) {
		p.t.Fatalf("the runs are %v, wanted %v", p.r.Runs(), p.m.b.Runs())
	}
	chunks := map[int]chunk.Chunk{}
	for order, all := range p.m.bins {
		if got := p.r.Bins().All(order); !slices.Equal(got, all) {
			p.t.Fatalf("of order %d are cached %v, wanted %v", order, got, all)
		}
		for _, at := range all {
			chunks[at] = chunk.Chunk{At: at, Order: order}
		}
	}
	for _, c := range p.owned {
		chunks[c.At] = c
	}
	for page := range p.r.Committed() {
		at := page * api.Page
		got, e := chunk.Read(p.r.Arena, at)
		wanted, some := chunks[at]
		if wanted.Owner == 0 {
			got.Next = 0 // the bins'
		}
		if some != (e == api.OK) || got != wanted {
			p.t.Fatalf("at %d stands %v, error %d, wanted %v", at, got, e, wanted)
		}
	}
}

func TestAsTheChapterSays(t *testing.T) {
	for _, c := range []struct{ cap, most, steps int }{{2, 1, 100}, {3, 2, 300}, {9, 3, 1500}, {18, 4, 2000}, {40, 5, 2000}, {100, 6, 2000}, {300, 7, 1000}, {3841, 10, 150}} {
		b, at := base(t, c.cap)
		r, e := New(b, of(t, b, at, 64))
		is(t, "New", e, api.OK)
		twin, _ := base(t, c.cap)
		p := &play{t: t, r: r, m: &model{b: twin, keeps: 16}, at: at, x: c.cap}
		for range c.steps {
			p.step(c.most)
			p.look()
		}
		// When all is given back, and trimmed, nothing is taken but the recycler's own run.
		for len(p.owned) > 0 {
			p.give(len(p.owned) - 1)
		}
		p.r.Trim()
		p.m.trim()
		p.look()
		if taken(p.r) != 0 {
			t.Errorf("of cap %d: taken are %d", c.cap, taken(p.r))
		}
	}
}

// Each Commit that is refused shows in both alike.
func TestRefusedCommitsAsTheChapterSays(t *testing.T) {
	for after := range 6 {
		b, at := base(t, 60)
		r, e := New(b, of(t, b, at, 64))
		is(t, "New", e, api.OK)
		twin, _ := base(t, 60)
		m := &model{b: twin, keeps: 16}
		var owned []chunk.Chunk
		r.Refuse(after)
		twin.Refuse(after)
		for _, order := range []int{0, 1, 0, 2, 1, 3, 0, 4, 2, 3, 1, 0, 2} {
			c, e := r.Take(order, math.MaxUint64)
			at, k, f := m.take(order)
			if e != f || e == api.OK && (c.At != at || c.Order != k) || e != api.OK && c != (chunk.Chunk{}) {
				t.Fatalf("behind %d Commits: Take(%d): %v, error %d, wanted %d, error %d", after, order, c, e, at, f)
			}
			if e == api.OK {
				owned = append(owned, c)
			}
			if len(owned) > 2 {
				is(t, "Give", r.Give(owned[0].At), api.OK)
				m.give(owned[0].At, owned[0].Order)
				owned = owned[1:]
			}
			if !slices.Equal(r.Runs(), twin.Runs()) || r.Cached() != m.cached() {
				t.Fatalf("behind %d Commits: runs %v, wanted %v", after, r.Runs(), twin.Runs())
			}
		}
	}
}

// A recycler whose view is of another arena knows nothing of its chunks there: what is given back goes to the buddy.
func TestAViewOfAnotherArena(t *testing.T) {
	b, _ := base(t, 20)
	a := arena.New(1)
	is(t, "Commit", a.Commit(0, 1), api.OK)
	other := of(t, &buddy.Buddy{Arena: a}, 100, 64)
	r, e := New(b, other)
	is(t, "New", e, api.OK)
	for order := range 4 {
		freed(t, r, take(t, r, order, 5))
	}
}
