package buddy

import (
	"slices"
	"testing"

	"millpond/api"
	"millpond/arena"
)

// model is a buddy as its chapter's words have it: its runs, by the numbers of their pages.
type model struct {
	pages, grown int
	runs         []Run
	refuse       bool // whether the next Commit is refused
}

func (m *model) sort() {
	slices.SortFunc(m.runs, func(a, b Run) int { return a.At - b.At })
}

// join: two free runs are put together, wherever they can be.
func (m *model) join() {
	m.sort()
	for i := 0; i+1 < len(m.runs); {
		a, b := m.runs[i], m.runs[i+1]
		if a.Taken || b.Taken || a.Order != b.Order || a.Order >= api.MaxOrder || a.At+1<<a.Order != b.At || a.At%(2<<a.Order) != 0 {
			i++
			continue
		}
		m.runs[i].Order++
		m.runs = slices.Delete(m.runs, i+1, i+2)
		i = 0
	}
}

func (m *model) grow(order int) bool {
	first := m.grown
	for first%(1<<order) != 0 {
		first++
	}
	if first+1<<order > m.pages {
		return false
	}
	if m.refuse {
		m.refuse = false
		return false
	}
	for m.grown < first {
		k := 0
		for m.grown%(2<<k) == 0 && m.grown+2<<k <= first {
			k++
		}
		m.runs = append(m.runs, Run{m.grown, k, false})
		m.grown += 1 << k
	}
	m.runs = append(m.runs, Run{first, order, false})
	m.grown = first + 1<<order
	m.join()
	return true
}

// best: the run that is to be taken, or a number below 0.
func (m *model) best(order int) int {
	best := -1
	for i, r := range m.runs {
		if !r.Taken && r.Order >= order && (best < 0 || r.Order < m.runs[best].Order) {
			best = i
		}
	}
	return best
}

func (m *model) alloc(order int) (int, bool) {
	i := m.best(order)
	if i < 0 {
		if !m.grow(order) {
			return 0, false
		}
		i = m.best(order)
	}
	for m.runs[i].Order > order {
		k := m.runs[i].Order - 1
		m.runs[i].Order = k
		m.runs = append(m.runs, Run{m.runs[i].At + 1<<k, k, false})
	}
	m.runs[i].Taken = true
	at := m.runs[i].At
	m.sort()
	return at, true
}

func (m *model) free(page int) bool {
	i := slices.IndexFunc(m.runs, func(r Run) bool { return r.Taken && r.At == page })
	if i < 0 {
		return false
	}
	m.runs[i].Taken = false
	m.join()
	return true
}

func (m *model) shrink() int {
	n := 0
	for len(m.runs) > 0 && !m.runs[len(m.runs)-1].Taken {
		n += 1 << m.runs[len(m.runs)-1].Order
		m.runs = m.runs[:len(m.runs)-1]
	}
	m.grown -= n
	return n
}

// play is a buddy and its model, of which the same is asked.
type play struct {
	t *testing.T
	b *Buddy
	m *model
	x int // the numbers of a step follow from the one's ahead
}

func (p *play) number(below int) int {
	p.x = (p.x*1103515245 + 12345) % (1 << 31)
	return p.x / 64 % below
}

func (p *play) alloc(order int) {
	at, e := p.b.Alloc(order)
	page, ok := p.m.alloc(order)
	if !ok {
		if at != 0 || e != api.ErrNoMemory {
			p.t.Fatalf("Alloc(%d): %d, error %d, wanted none", order, at, e)
		}
		return
	}
	if wanted := (p.b.Base() + page) * api.Page; at != wanted || e != api.OK {
		p.t.Fatalf("Alloc(%d): %d, error %d, wanted %d", order, at, e, wanted)
	}
	is(p.t, "Fill", p.b.Fill(at, api.Page<<order, byte(page*7+1)), api.OK)
}

// free: what was taken has all its bytes till then.
func (p *play) free(page int) {
	at := (p.b.Base() + page) * api.Page
	order, e := p.b.Order(at)
	if !slices.Contains(p.m.runs, Run{page, order, true}) {
		is(p.t, "Order of no run", e, api.ErrNone)
		is(p.t, "Free of no run", p.b.Free(at), api.ErrNone)
		return
	}
	is(p.t, "Order", e, api.OK)
	s, _ := p.b.Bytes(at, api.Page<<order)
	if i := slices.IndexFunc([]byte(s), func(b byte) bool { return b != byte(page*7+1) }); len(s) == 0 || i >= 0 {
		p.t.Fatalf("the run at page %d, of order %d, has another byte at %d", page, order, i)
	}
	p.m.free(page)
	is(p.t, "Free", p.b.Free(at), api.OK)
}

func (p *play) grow(order int) {
	wanted := api.ErrNoMemory
	if p.m.grow(order) {
		wanted = api.OK
	}
	is(p.t, "Grow", p.b.Grow(order), wanted)
}

func (p *play) shrink() {
	if n, wanted := p.b.Shrink(), p.m.shrink(); n != wanted {
		p.t.Fatalf("Shrink: %d, wanted %d", n, wanted)
	}
}

// open: it is opened anew, now and then over a clone.
func (p *play) open() {
	a := p.b.Arena
	if p.number(4) == 0 {
		a = a.Clone()
	}
	b, e := Open(a)
	is(p.t, "Open", e, api.OK)
	p.b = b
}

// step: one thing is done; for a while more is taken than freed, then the other way round.
func (p *play) step(most int) {
	filling := p.m.grown < p.m.pages/2 || p.number(3) == 0
	switch n := p.number(16); {
	case n < 5, n < 9 && filling:
		p.alloc(p.number(p.number(most+1) + 1))
	case n < 13 && len(p.m.runs) > 0:
		p.free(p.m.runs[p.number(len(p.m.runs))].At + p.number(5)/4)
	case n == 13:
		p.grow(p.number(most + 1))
	case n == 14:
		p.shrink()
	case n == 15:
		p.b.Refuse(0)
		p.m.refuse = true
		p.open()
	}
}

func TestAsTheChapterSays(t *testing.T) {
	for _, c := range []struct{ cap, most, steps int }{{2, 1, 200}, {3, 2, 400}, {9, 3, 2000}, {34, 5, 4000}, {100, 6, 4000}, {1300, 10, 1500}, {3000, 10, 1500}, {3841, 9, 1500}, {7937, 10, 1500}} {
		b, e := New(arena.New(c.cap))
		is(t, "New", e, api.OK)
		p := &play{t, b, &model{pages: c.cap - b.Base()}, c.cap}
		for range c.steps {
			p.step(c.most)
			runs(t, "a step", p.b, p.m.runs...)
		}
		for _, r := range slices.Clone(p.m.runs) {
			p.free(r.At)
		}
		// When all are free, they are what they would be if nothing had been taken.
		var all []Run
		for page := 0; page < p.m.grown; {
			k := 0
			for k < api.MaxOrder && page%(2<<k) == 0 && page+2<<k <= p.m.grown {
				k++
			}
			all = append(all, Run{page, k, false})
			page += 1 << k
		}
		runs(t, "all free", p.b, all...)
		p.shrink()
		runs(t, "all gone", p.b)
	}
}
