package audit

import (
	"slices"
	"strings"
	"testing"

	"millpond/api"
	"millpond/arena"
	"millpond/block"
	"millpond/keep"
	"millpond/move"
	"millpond/node"
	"millpond/pool"
	"millpond/tear"
)

// play is a forest, in which all that the layers below do is done; the numbers of a step follow from the one's ahead.
type play struct {
	t    *testing.T
	f    *pool.Forest
	seen map[string]int
	x    int
}

func (p *play) number(below int) int {
	p.x = (p.x*1103515245 + 12345) % (1 << 31)
	return p.x / 64 % below
}

// some: a node's handle.
func (p *play) some() api.Handle {
	all := p.f.Handles()
	return all[p.number(len(all))]
}

// create: a node more.
func (p *play) create() api.Errno {
	kind, n := uint64(1+p.number(2)), p.number(300)
	if p.number(5) == 0 {
		n *= 60
	}
	_, e := p.f.Make(p.some(), kind, "n", n*int(kind-1))
	return e
}

// object: of a pool an object more, or some less, or one that grows.
func (p *play) object() api.Errno {
	h := p.some()
	n, _ := p.f.Node(h)
	if n.Get(node.Kind) == pool.Block {
		return p.content(block.Of(n))
	}
	var e api.Errno
	switch p.number(9) {
	case 0, 1, 2:
		_, e = n.Alloc(p.number(3000), 1<<p.number(7))
	case 3:
		if all := n.Objects(); len(all) > 0 {
			e = n.Free(all[p.number(len(all))].At)
		}
	case 4:
		_, e = n.Resize(p.number(6000), 1)
	case 5:
		e = n.Begin(8)
	case 6:
		e = n.Grow(strings.Repeat("g", p.number(2000)), "h")
	case 7:
		_, e = n.Finish()
	default:
		e = n.Abort()
	}
	return e
}

// content: of a block it is another one.
func (p *play) content(b block.Block) api.Errno {
	if p.number(2) == 0 {
		return b.Resize(p.number(9000))
	}
	return b.Append(strings.Repeat("a", p.number(500)), "b")
}

// charge: a node is charged, or has a limit.
func (p *play) charge() api.Errno {
	n, _ := p.f.Node(p.some())
	if p.number(3) == 0 {
		return p.f.SetLimit(n.Where(), p.f.Sum(n.Where())+p.number(20000)-3000)
	}
	return p.f.Charge(n.Where(), p.number(1000)-400)
}

// clean: an entry of some kind more.
func (p *play) clean() api.Errno {
	kind, arg := uint8(p.number(6)), uint64(p.number(1<<20))
	if kind == tear.Destroying {
		arg = uint64(p.some())
	}
	_, e := tear.Register(p.f, p.some(), p.number(3) == 0, kind, arg)
	return e
}

// goes: a node goes, or all that it has.
func (p *play) goes() api.Errno {
	h := p.some()
	var e api.Errno
	switch p.number(4) {
	case 0:
		// The ground has all there is.
		if h != 256 {
			_, e = tear.Clear(p.f, h)
		}
	case 1:
		_, e = keep.Save(p.f, h, p.number(2) == 0)
	case 2:
		e = p.f.Remove(h)
	default:
		_, e = tear.Destroy(p.f, h)
	}
	return e
}

// unlink: a link less, where there is one.
func (p *play) unlink() api.Errno {
	for _, h := range p.f.Handles() {
		if l, _ := move.Targets(p.f, h); len(l) > 0 {
			return move.Unlink(p.f, h, l[p.number(len(l))])
		}
	}
	return move.Unlink(p.f, p.some(), p.some())
}

// pages: the recycler, or the buddy, gives some back, or has some more; or no page is to be had for a while.
func (p *play) pages() api.Errno {
	switch p.number(5) {
	case 0:
		p.f.Trim()
	case 1:
		p.f.Keep(p.number(60))
	case 2:
		p.f.Shrink()
	case 3:
		return p.f.Grow(p.number(3))
	default:
		p.f.Refuse(p.number(3))
	}
	return api.OK
}

// step: something is done.
func (p *play) step() {
	var what string
	var e api.Errno
	switch p.number(16) {
	case 0, 1, 2:
		what, e = "Make", p.create()
	case 3, 4, 5, 6:
		what, e = "objects", p.object()
	case 7:
		what, e = "charges", p.charge()
	case 8, 9:
		what, e = "Register", p.clean()
	case 10:
		what, e = "what goes", p.goes()
	case 11, 12:
		what, e = "Refer", move.Refer(p.f, p.some(), p.some())
	case 13:
		what, e = "Unlink", p.unlink()
	case 14:
		what, e = "Steal", move.Steal(p.f, p.some(), p.some())
	default:
		what, e = "pages", p.pages()
	}
	if e == api.OK {
		p.seen[what]++
	}
}

// agree: is what is told what is so by the nodes' chains, and the bins?
func (p *play) agree() {
	p.t.Helper()
	if !Right(p.f) {
		p.t.Fatal("it isn't right")
	}
	wanted := slices.Repeat([]uint64{Gone}, p.f.Cap())
	lay := func(what uint64, at, pages int) {
		for i := range pages {
			page := at/api.Page + i
			if was := wanted[page]; was != Forest && (what != Forest || was != Gone) {
				p.t.Fatalf("page %d is %d, and %d", page, was, what)
			}
			wanted[page] = what
		}
	}
	for _, r := range p.f.Runs() {
		lay(Forest, r.At, 1<<r.Order)
		if !r.Taken {
			lay(Free, r.At, 1<<r.Order)
		}
	}
	var objects []Span
	for _, h := range p.f.Handles() {
		n, _ := p.f.Node(h)
		for _, c := range n.Chunks() {
			lay(uint64(h), c.At, 1<<c.Order)
		}
		for _, o := range n.Objects() {
			objects = append(objects, Span{h, o.At, o.Size})
		}
	}
	for order := range api.MaxBin + 1 {
		for _, at := range p.f.Bins().All(order) {
			lay(Cached, at, 1<<order)
		}
	}
	for page := range p.f.Base() {
		wanted[page] = Buddy
	}
	if l := Pages(p.f); !slices.Equal(l, wanted) {
		p.t.Fatalf("the pages are %v, wanted %v", l, wanted)
	}
	slices.SortFunc(objects, func(a, b Span) int { return a.At - b.At })
	if l := Spans(p.f); !slices.Equal(l, objects) {
		p.t.Fatalf("the spans are %v, wanted %v", l, objects)
	}
	p.owners(objects)
}

// owners: of some bytes, are they who has an object there?
func (p *play) owners(objects []Span) {
	p.t.Helper()
	for range 5 {
		at, wanted := p.number(p.f.Cap()*api.Page), api.Handle(0)
		if len(objects) > 0 && p.number(2) == 0 {
			at = objects[p.number(len(objects))].At + p.number(20) - 5
		}
		for _, s := range objects {
			if s.At <= at && at < s.At+s.Size {
				wanted = s.Handle
			}
		}
		owner(p.t, p.f, at, wanted)
	}
}

// P30.4

func TestWhateverIsDoneAllAgrees(t *testing.T) {
	p := &play{t: t, seen: map[string]int{}, x: 30}
	for cap := range 6 {
		p.f = fresh(t, 60+60*cap)
		for i := range 350 {
			p.step()
			p.agree()
			if i%50 == 0 {
				again, e := pool.Open(p.f.Arena.Clone())
				is(t, "Open", e, api.OK)
				p.f = again
				p.agree()
			}
		}
		p.end()
	}
	for _, what := range []string{"Make", "objects", "charges", "Register", "what goes", "Refer", "Unlink", "Steal", "pages"} {
		if p.seen[what] < 20 {
			t.Errorf("%s was OK %d times", what, p.seen[what])
		}
	}
}

// end: all goes, and all comes back.
func (p *play) end() {
	p.t.Helper()
	_, e := tear.Clear(p.f, 256)
	is(p.t, "Clear", e, api.OK)
	p.f.Keep(0)
	p.agree()
	f, e := pool.New(arena.New(p.f.Cap()))
	is(p.t, "pool.New", e, api.OK)
	p.f.Shrink()
	if l := Pages(p.f); !slices.Equal(l, Pages(f)) {
		p.t.Fatalf("the pages are %v", l)
	}
}

// P2: what is laid in an object stays, whatever is done with others, and lies in a page of its node.
func TestWhatIsLaidStays(t *testing.T) {
	p := &play{t: t, f: fresh(t, 300), x: 2}
	laid := map[int]string{}
	a := one(t, p.f, 256)
	for i := range 40 {
		h := a
		if i%2 == 0 {
			h = bytes(t, p.f, a, 100*i)
		} else {
			alloc(t, p.f, a, 50*i, 8)
		}
		at := of(t, p.f, h).Mark()
		o, _ := of(t, p.f, h).Last()
		laid[at] = strings.Repeat(string(rune('A'+i)), o.Size)
		is(t, "Put", p.f.Put(at, laid[at]), api.OK)
	}
	mine := len(Spans(p.f))
	for range 300 {
		p.others(a)
	}
	if !Right(p.f) || mine != 40 {
		t.Fatalf("it isn't right, or there are %d spans", mine)
	}
	all := Pages(p.f)
	for at, text := range laid {
		s, e := p.f.Bytes(at, len(text))
		is(t, "Bytes", e, api.OK)
		if s != text {
			t.Fatalf("the bytes at %d are others", at)
		}
		h, ok := Owner(p.f, at)
		if len(text) > 0 && (!ok || all[at/api.Page] != uint64(h)) {
			t.Fatalf("the bytes at %d are in a page of %d, and in an object of %d", at, all[at/api.Page], h)
		}
	}
}

// others: something is done with nodes that aren't below one; what they have is overwritten.
func (p *play) others(but api.Handle) {
	all := slices.DeleteFunc(p.f.Handles(), func(h api.Handle) bool {
		return h == 256 || p.f.Under(of(p.t, p.f, h).Where(), of(p.t, p.f, but).Where())
	})
	if len(all) < 5 {
		for range 5 {
			one(p.t, p.f, 256)
		}
		return
	}
	h := all[p.number(len(all))]
	n := of(p.t, p.f, h)
	switch p.number(4) {
	case 0:
		tear.Destroy(p.f, h)
	case 1:
		p.f.Make(h, pool.Pool, "", 0)
	default:
		if at, e := n.Alloc(p.number(9000), 16); e == api.OK {
			o, _ := n.Last()
			is(p.t, "Fill", p.f.Fill(at, o.Size, '?'), api.OK)
		}
	}
}
