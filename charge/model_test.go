package charge

import (
	"slices"
	"testing"

	"millpond/api"
)

// thing is a node as the chapter's words have it.
type thing struct {
	at         int
	parent     *thing
	children   []*thing
	own, limit int
}

// sum: of itself and its children; nothing of it is kept.
func (n *thing) sum() int {
	all := n.own
	for _, child := range n.children {
		all += child.sum()
	}
	return all
}

// above: the nodes above it, the next one first.
func (n *thing) above() []*thing {
	var all []*thing
	for up := n.parent; up != nil; up = up.parent {
		all = append(all, up)
	}
	return all
}

// in: is it in a subtree?
func (n *thing) in(top *thing) bool {
	return n == top || slices.Contains(n.above(), top)
}

// bears: may its sum be so much more?
func (n *thing) bears(more int) bool {
	return n.limit < 0 || n.sum()+more <= n.limit
}

func (n *thing) fits(more int) bool {
	if more < 0 || more > 1<<32 {
		return false
	}
	for _, up := range append(n.above(), n) {
		if !up.bears(more) {
			return false
		}
	}
	return true
}

func (n *thing) setLimit(most int) api.Errno {
	if most > 1<<32 {
		return api.ErrArg
	}
	if most >= 0 && n.sum() > most {
		return api.ErrLimit
	}
	n.limit = max(most, none)
	return api.OK
}

func (n *thing) charge(more int) api.Errno {
	if more > 1<<32 || n.own+more < 0 {
		return api.ErrArg
	}
	if more > 0 && !n.fits(more) {
		return api.ErrLimit
	}
	n.own += more
	return api.OK
}

func (n *thing) add(child *thing) api.Errno {
	if child.parent != nil {
		return api.ErrThere
	}
	if n.in(child) {
		return api.ErrCycle
	}
	if child.sum() > 0 && !n.fits(child.sum()) {
		return api.ErrLimit
	}
	child.parent = n
	n.children = append(n.children, child)
	return api.OK
}

func (n *thing) cut() api.Errno {
	if n.parent == nil {
		return api.ErrNone
	}
	n.parent.children = slices.DeleteFunc(n.parent.children, func(child *thing) bool { return child == n })
	n.parent = nil
	return api.OK
}

func (n *thing) move(to *thing) api.Errno {
	if n.parent == nil {
		return api.ErrNone
	}
	if to.in(n) {
		return api.ErrCycle
	}
	old := n.above()
	for _, up := range append(to.above(), to) {
		if !slices.Contains(old, up) && !up.bears(n.sum()) {
			return api.ErrLimit
		}
	}
	n.cut()
	n.parent = to
	to.children = append(to.children, n)
	return api.OK
}

// play is a ledger and its model, of which the same is asked.
type play struct {
	t   *testing.T
	x   Ledger
	all []*thing
	n   int // the numbers of a step follow from the one's ahead
}

func (p *play) number(below int) int {
	p.n = (p.n*1103515245 + 12345) % (1 << 31)
	return p.n / 64 % below
}

// any: some node.
func (p *play) any() *thing {
	return p.all[p.number(len(p.all))]
}

// bytes: some number of bytes, small ones for the most part, so that limits are met, and just met.
func (p *play) bytes() int {
	switch p.number(12) {
	case 0:
		return 1<<32 - 1 + p.number(3)
	case 1:
		return p.number(1 << 20)
	default:
		return p.number(12)
	}
}

// call: the ledger answers what the model does; and if that is an error nothing has changed.
func (p *play) call(what string, asked func() api.Errno, wanted api.Errno) {
	p.t.Helper()
	if wanted == api.OK {
		is(p.t, what, asked(), api.OK)
		return
	}
	same(p.t, p.x.Arena, "a refused "+what, func() {
		p.t.Helper()
		is(p.t, what, asked(), wanted)
	})
}

func (p *play) step() {
	a, b := p.any(), p.any()
	switch k := p.number(40); {
	case k < 10:
		p.call("Add", func() api.Errno { return p.x.Add(a.at, b.at) }, a.add(b))
	case k < 14:
		p.call("Cut", func() api.Errno { return p.x.Cut(a.at) }, a.cut())
	case k < 22:
		p.call("Move", func() api.Errno { return p.x.Move(a.at, b.at) }, a.move(b))
	case k < 28:
		n := p.bytes()
		p.call("Charge", func() api.Errno { return p.x.Charge(a.at, n) }, a.charge(n))
	case k < 32:
		n := -p.number(a.own + 2)
		p.call("Charge", func() api.Errno { return p.x.Charge(a.at, n) }, a.charge(n))
	case k < 35:
		n := p.bytes() + p.number(a.sum()+1)
		p.call("SetLimit", func() api.Errno { return p.x.SetLimit(a.at, n) }, a.setLimit(n))
	case k < 36:
		p.call("SetLimit", func() api.Errno { return p.x.SetLimit(a.at, -1-p.number(3)) }, a.setLimit(none))
	case k < 38:
		p.twin()
	default:
		at(p.t, p.x, a.at).Alloc(p.number(100), 8)
	}
}

// twin: what one does the other doesn't.
func (p *play) twin() {
	old := p.x
	p.x = anew(p.t, old.Clone())
	for _, n := range p.all {
		old.SetLimit(n.at, none)
		old.Charge(n.at, 1)
		old.Cut(n.at)
	}
}

// look: does the ledger tell what it should, and is no sum above its limit?
func (p *play) look() {
	p.t.Helper()
	for _, n := range p.all {
		if p.x.Own(n.at) != n.own || p.x.Sum(n.at) != n.sum() {
			p.t.Fatalf("own %d, sum %d, wanted %d, %d", p.x.Own(n.at), p.x.Sum(n.at), n.own, n.sum())
		}
		limited(p.t, p.x, n.at, n.limit)
		if most, some := p.x.Limit(n.at); some && p.x.Sum(n.at) > most {
			p.t.Fatalf("the sum %d is above the limit %d", p.x.Sum(n.at), most)
		}
		var children []int
		for _, child := range n.children {
			children = append(children, child.at)
		}
		if !slices.Equal(p.x.Children(n.at), children) || n.parent != nil && p.x.Parent(n.at) != n.parent.at || n.parent == nil && p.x.Parent(n.at) != 0 {
			p.t.Fatalf("the children are %v, wanted %v; the parent is %d", p.x.Children(n.at), children, p.x.Parent(n.at))
		}
		for _, more := range []int{-1, 0, 1, 2, 5, 100, 1 << 32, 1<<32 + 1} {
			fits(p.t, p.x, n.at, n.fits(more), more)
		}
	}
}

// P20.4

func TestAsTheChapterSays(t *testing.T) {
	for many := 2; many <= 12; many += 2 {
		p := &play{t: t, x: fresh(t, many+8), n: many}
		for _, at := range create(t, p.x, many) {
			p.all = append(p.all, &thing{at: at, limit: none})
		}
		for range 600 {
			p.step()
			p.look()
		}
		// When all is cut, each sum is the own charge.
		for _, n := range p.all {
			p.x.Cut(n.at)
			n.cut()
		}
		p.look()
	}
}
