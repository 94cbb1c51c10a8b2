package tear

import (
	"slices"
	"strings"
	"testing"

	"millpond/api"
	"millpond/block"
	"millpond/data"
	"millpond/node"
	"millpond/pool"
	"millpond/refs"
)

// P27.2

func TestDestroyIsRemove(t *testing.T) {
	f := fresh(t, 60)
	a := one(t, f, 256)
	b := bytes(t, f, a, 9000)
	x := one(t, f, 256)
	tie(t, f, x, b)
	tie(t, f, a, b)
	_, e := of(t, f, a).Alloc(5000, 1)
	is(t, "Alloc", e, api.OK)
	is(t, "Charge", f.Charge(of(t, f, a).Where(), 5000), api.OK)
	charged(t, f, 256, 0, 14000)
	destroys(t, f, a)
	gone(t, f, a, b)
	children(t, f, 256, x)
	charged(t, f, 256, 0, 0)
	if len(refs.Holders(of(t, f, x))) != 0 || !slices.Equal(f.Handles(), []api.Handle{256, x}) {
		t.Error("something of what went is left")
	}
	// A block goes alike.
	b = bytes(t, f, x, 7)
	notes(t, f, b, 1)
	destroys(t, f, b, Event{b, Note, 1})
	gone(t, f, b)
	charged(t, f, x, 0, 0)
	if b != 513 && b != 514 {
		t.Errorf("the handle is %d", b)
	}
}

// Whatever goes leaves no page behind.
func TestDestroyGivesAllBack(t *testing.T) {
	f := fresh(t, 200)
	f.Keep(0)
	before := f.Committed()
	a := one(t, f, 256)
	for i := range 20 {
		h := one(t, f, a)
		b := bytes(t, f, h, 1000*i)
		register(t, f, h, false, Alloc, 999)
		register(t, f, b, true, Again, 1)
	}
	if l, e := Destroy(f, a); e != api.OK || len(l) != 60 {
		t.Fatalf("%d events, error %d", len(l), e)
	}
	f.Shrink()
	if n := f.Committed(); n != before {
		t.Errorf("%d pages, wanted %d", n, before)
	}
}

func TestDestroyRefuses(t *testing.T) {
	f := fresh(t, 60)
	l := many(t, f, 256, 2)
	a := l[0]
	b := one(t, f, a)
	c := one(t, f, b)
	d := one(t, f, a)
	tie(t, f, c, l[1])
	for _, h := range []api.Handle{256, a, b, c, d} {
		notes(t, f, h, uint64(h))
		pres(t, f, h, uint64(h))
	}
	refused := func(h api.Handle, wanted api.Errno) {
		t.Helper()
		same(t, f, "a refused Destroy", func() {
			t.Helper()
			l, e := Destroy(f, h)
			none(t, "Destroy", l, e, wanted)
		})
	}
	// The ground never goes, be it that somebody dies.
	refused(256, api.ErrOrder)
	dies(t, f, c)
	refused(256, api.ErrOrder)
	refused(a, api.ErrDying)
	refused(b, api.ErrDying)
	refused(c, api.ErrDying)
	of(t, f, c).Set(node.State, 0)
	dies(t, f, a)
	refused(a, api.ErrDying)
	of(t, f, a).Set(node.State, 1<<63)
	refused(a, api.ErrDying)
	dies(t, f, 256)
	refused(256, api.ErrOrder)
	// Somebody above that dies is no reason, nor is one beside it.
	destroys(t, f, d, Event{d, Note, uint64(d)}, Event{d, Note, uint64(d)})
	of(t, f, a).Set(node.State, 0)
	destroys(t, f, a, Event{a, Note, uint64(a)}, Event{b, Note, uint64(b)}, Event{b, Note, uint64(b)}, Event{a, Note, uint64(a)})
	children(t, f, l[1], c)
}

// Who is held from outside is moved ahead of all else, and stays as it was.
func TestDestroySaves(t *testing.T) {
	f := fresh(t, 60)
	a, x := one(t, f, 256), one(t, f, 256)
	b := one(t, f, a)
	c := one(t, f, b)
	d := one(t, f, a)
	for _, h := range []api.Handle{a, b, c, d} {
		notes(t, f, h, uint64(h))
	}
	tie(t, f, b, x)
	destroys(t, f, a, Event{d, Note, uint64(d)}, Event{a, Note, uint64(a)})
	gone(t, f, a, d)
	children(t, f, x, b)
	children(t, f, b, c)
	for _, h := range []api.Handle{x, b, c} {
		if of(t, f, h).Get(node.State) != 0 {
			t.Errorf("%d dies", h)
		}
	}
	if l := refs.Targets(of(t, f, x)); len(l) != 1 || l[0].Who != uint64(b) {
		t.Errorf("x refers to %v", l)
	}
	// x holds it yet, so it stays, though x is its parent.
	destroys(t, f, b)
	children(t, f, x, b)
	destroys(t, f, x, Event{c, Note, uint64(c)}, Event{b, Note, uint64(b)})
}

// If the node itself is moved nothing more is done.
func TestDestroyOfWhoIsHeld(t *testing.T) {
	f := fresh(t, 60)
	a, x := one(t, f, 256), one(t, f, 256)
	b := one(t, f, a)
	notes(t, f, a, 1)
	pres(t, f, b, 2)
	tie(t, f, a, x)
	destroys(t, f, a)
	children(t, f, 256, x)
	children(t, f, x, a)
	children(t, f, a, b)
	for _, h := range []api.Handle{a, b, x} {
		if of(t, f, h).Get(node.State) != 0 {
			t.Errorf("%d dies", h)
		}
	}
	if len(Pending(f, a, false)) != 1 || len(Pending(f, b, true)) != 1 {
		t.Error("an entry was run")
	}
	is(t, "Untie", refs.Untie(of(t, f, x), of(t, f, a)), api.OK)
	destroys(t, f, a, Event{b, Note, 2}, Event{a, Note, 1})
	gone(t, f, a, b)
}

// It may be the last one that is moved, behind others.
func TestDestroyOfWhoIsHeldAtLast(t *testing.T) {
	f := fresh(t, 60)
	a, x, y := one(t, f, 256), one(t, f, 256), one(t, f, 256)
	b := bytes(t, f, a, 5)
	c := one(t, f, a)
	notes(t, f, a, 1)
	notes(t, f, c, 2)
	tie(t, f, a, x)
	tie(t, f, b, y)
	limit(t, f, x, 4)
	destroys(t, f, a)
	children(t, f, y, b)
	children(t, f, x, a)
	children(t, f, a, c)
	// A limit may be in the way of all.
	d := bytes(t, f, 256, 5)
	tie(t, f, d, x)
	notes(t, f, d, 3)
	destroys(t, f, d, Event{d, Note, 3})
	gone(t, f, d)
}

// Who dies saves nobody.
func TestWhoDiesSavesNobody(t *testing.T) {
	f := fresh(t, 60)
	a, x, y := one(t, f, 256), one(t, f, 256), one(t, f, 256)
	tie(t, f, x, a)
	tie(t, f, y, x)
	notes(t, f, x, 1)
	notes(t, f, y, 2)
	// x is destroyed while a dies, so a doesn't save it; nor does x save y, that is destroyed while it dies.
	register(t, f, a, false, Destroying, uint64(x))
	register(t, f, x, true, Destroying, uint64(y))
	destroys(t, f, a, Event{a, Destroying, uint64(x)}, Event{x, Destroying, uint64(y)}, Event{y, Note, 2}, Event{x, Note, 1})
	children(t, f, 256)
	// But the ground does, and one that doesn't die.
	a, x, y = one(t, f, 256), one(t, f, 256), one(t, f, 256)
	tie(t, f, x, a, y)
	register(t, f, a, false, Destroying, uint64(x))
	notes(t, f, x, 1)
	destroys(t, f, a, Event{a, Destroying, uint64(x)})
	children(t, f, 256, y)
	children(t, f, y, x)
}

// None of those that go is destroyed by an entry of one of them, nor is one above.
func TestDestroyingWhoDies(t *testing.T) {
	f := fresh(t, 60)
	p := one(t, f, 256)
	a := one(t, f, p)
	b, c := one(t, f, a), one(t, f, a)
	for _, h := range []api.Handle{b, c, a, p, 256} {
		register(t, f, a, false, Destroying, uint64(h))
		if h != 256 {
			register(t, f, a, true, Destroying, uint64(h))
		}
	}
	register(t, f, c, false, Destroying, uint64(b))
	notes(t, f, b, 1)
	notes(t, f, p, 2)
	var wanted []Event
	for _, h := range []api.Handle{p, a, c, b} {
		wanted = append(wanted, Event{a, Destroying, uint64(h)})
	}
	wanted = append(wanted, Event{c, Destroying, uint64(b)}, Event{b, Note, 1})
	for _, h := range []api.Handle{256, p, a, c, b} {
		wanted = append(wanted, Event{a, Destroying, uint64(h)})
	}
	destroys(t, f, a, wanted...)
	gone(t, f, a, b, c)
	children(t, f, p)
	children(t, f, 256, p)
	pendingNotes(t, f, p, 2)
}

// pendingNotes: are a node's cleanups Notes of these arguments?
func pendingNotes(t *testing.T, f *pool.Forest, h api.Handle, args ...uint64) {
	t.Helper()
	var all []uint64
	for _, x := range Pending(f, h, false) {
		all = append(all, x.Arg)
	}
	if !slices.Equal(all, args) {
		t.Fatalf("the cleanups of %d are %v, wanted %v", h, all, args)
	}
}

// What an entry of a node that goes does is done, as of any other one.
func TestDestroyRunsEntries(t *testing.T) {
	f := fresh(t, 60)
	a := one(t, f, 256)
	b := one(t, f, a)
	x := one(t, f, 256)
	// 1 is killed, 3 comes once more, ahead of what was registered first.
	notes(t, f, a, 1, 2)
	register(t, f, a, false, Killing, 1)
	register(t, f, a, false, Again, 30)
	register(t, f, a, true, Killing, 6)
	notes(t, f, a, 60)
	pres(t, f, b, 4)
	register(t, f, b, true, Again, 70)
	register(t, f, x, false, Note, 9)
	destroys(t, f, a, Event{a, Killing, 6}, Event{b, Again, 70}, Event{b, Note, 4}, Event{b, Note, 71}, Event{a, Again, 30}, Event{a, Note, 31}, Event{a, Killing, 1}, Event{a, Note, 2})
	pendingNotes(t, f, x, 9)
}

// What is allocated while a node dies is charged, to those above, too, till it is gone.
func TestDestroyAllocates(t *testing.T) {
	f := fresh(t, 60)
	p := one(t, f, 256)
	a := one(t, f, p)
	b, c := one(t, f, a), one(t, f, a)
	limit(t, f, p, 15)
	register(t, f, c, false, Alloc, 10)
	register(t, f, c, true, Alloc, 6)
	register(t, f, b, false, Alloc, 15)
	register(t, f, a, true, Alloc, 1)
	register(t, f, a, false, Alloc, 15)
	destroys(t, f, a, Event{a, Alloc, 1}, Event{c, Alloc, 6}, Event{c, Alloc, 10}, Event{b, Alloc, 15}, Event{a, Alloc, 15})
	charged(t, f, p, 0, 0)
	charged(t, f, 256, 0, 0)
}

func TestClear(t *testing.T) {
	f := fresh(t, 100)
	p := one(t, f, 256)
	a := one(t, f, p)
	x := one(t, f, p)
	n := of(t, f, a)
	b := bytes(t, f, a, 9)
	c := one(t, f, b)
	_, e := n.Alloc(5000, 1)
	is(t, "Alloc", e, api.OK)
	is(t, "Charge", f.Charge(n.Where(), 5000), api.OK)
	is(t, "Set", data.Open(n.Part(node.Keys)).Set("k", 5), api.OK)
	limit(t, f, a, 7000)
	tie(t, f, a, x)
	tie(t, f, x, a)
	notes(t, f, a, 1)
	pres(t, f, a, 2)
	notes(t, f, b, 3)
	register(t, f, c, true, Alloc, 4)
	register(t, f, a, false, Alloc, 40)
	charged(t, f, p, 0, 5009)
	clears(t, f, a, Event{a, Note, 2}, Event{c, Alloc, 4}, Event{b, Note, 3}, Event{a, Alloc, 40}, Event{a, Note, 1})
	gone(t, f, b, c)
	children(t, f, p, a, x)
	children(t, f, a)
	sizes(t, f, a)
	charged(t, f, a, 0, 0)
	charged(t, f, p, 0, 0)
	pending(t, f, a, false)
	pending(t, f, a, true)
	if n.Get(node.State) != 0 || n.Used() != 0 || n.Mark() != 0 || len(n.Chunks()) != 1 {
		t.Error("the pool isn't as a new one")
	}
	// What isn't said to go stays.
	if k, some := data.Open(n.Part(node.Keys)).Get("k"); k != 5 || !some || n.Name() != "p" {
		t.Error("its key, or its name, is another one")
	}
	if most, some := f.Limit(n.Where()); most != 7000 || !some || len(refs.Holders(n)) != 1 || len(refs.Targets(n)) != 1 {
		t.Error("its limit, or its links, are others")
	}
	// It is as good as new.
	clears(t, f, a)
	one(t, f, a)
	at, e := n.Alloc(10, 8)
	if e != api.OK || at != n.Where()+api.Front+api.Small {
		t.Errorf("the first object is at %d, error %d", at, e)
	}
	destroys(t, f, p)
	gone(t, f, p, a, x)
}

func TestClearOfTheGround(t *testing.T) {
	f := fresh(t, 60)
	a, b := one(t, f, 256), bytes(t, f, 256, 4)
	tie(t, f, a, b, 256)
	tie(t, f, b, 256)
	notes(t, f, a, 1)
	notes(t, f, b, 2)
	register(t, f, 256, false, Again, 3)
	clears(t, f, 256, Event{b, Note, 2}, Event{a, Note, 1}, Event{256, Again, 3}, Event{256, Note, 4})
	if l := f.Handles(); !slices.Equal(l, []api.Handle{256}) {
		t.Errorf("the handles are %v", l)
	}
	charged(t, f, 256, 0, 0)
	if of(t, f, 256).Get(node.State) != 0 {
		t.Error("the ground dies")
	}
	clears(t, f, 256)
}

// Held or not, all objects are gone.
func TestClearWhileItGrows(t *testing.T) {
	f := fresh(t, 60)
	a := one(t, f, 256)
	n := of(t, f, a)
	is(t, "Begin", n.Begin(1), api.OK)
	is(t, "Grow", n.Grow("abc"), api.OK)
	register(t, f, a, false, Alloc, 4)
	clears(t, f, a, Event{a, Alloc, 4})
	if n.Held() != 0 || n.Used() != 0 {
		t.Error("it grows yet")
	}
	_, e := n.Alloc(1, 1)
	is(t, "Alloc", e, api.OK)
}

// The node itself isn't moved, but what is below it is, where it is held; by the node itself it isn't.
func TestClearSaves(t *testing.T) {
	f := fresh(t, 60)
	a, x := one(t, f, 256), one(t, f, 256)
	b, c := one(t, f, a), one(t, f, a)
	d := one(t, f, b)
	tie(t, f, a, x)
	tie(t, f, c, a, b, d)
	tie(t, f, d, x, a)
	for _, h := range []api.Handle{a, b, c, d} {
		notes(t, f, h, uint64(h))
	}
	// d comes to x, so that it is outside, and then saves c.
	clears(t, f, a, Event{b, Note, uint64(b)}, Event{a, Note, uint64(a)})
	gone(t, f, b)
	children(t, f, 256, a, x)
	children(t, f, x, d)
	children(t, f, d, c)
	pendingNotes(t, f, d, uint64(d))
	pendingNotes(t, f, c, uint64(c))
	if of(t, f, d).Get(node.State) != 0 || of(t, f, c).Get(node.State) != 0 {
		t.Error("who was saved dies")
	}
}

func TestClearRefuses(t *testing.T) {
	f := fresh(t, 60)
	a := one(t, f, 256)
	b := bytes(t, f, a, 4)
	c := one(t, f, b)
	x := one(t, f, 256)
	tie(t, f, c, x)
	for _, h := range []api.Handle{256, a, b, c} {
		notes(t, f, h, 1)
	}
	refused := func(h api.Handle, wanted api.Errno) {
		t.Helper()
		same(t, f, "a refused Clear", func() {
			t.Helper()
			l, e := Clear(f, h)
			none(t, "Clear", l, e, wanted)
		})
	}
	refused(b, api.ErrKind)
	dies(t, f, b)
	refused(b, api.ErrKind)
	refused(a, api.ErrDying)
	refused(256, api.ErrDying)
	of(t, f, b).Set(node.State, 0)
	dies(t, f, a)
	refused(a, api.ErrDying)
	refused(256, api.ErrDying)
	// One above it that dies is no reason.
	clears(t, f, c, Event{c, Note, 1})
	children(t, f, b, c)
	of(t, f, a).Set(node.State, 0)
	clears(t, f, a, Event{b, Note, 1}, Event{a, Note, 1})
	children(t, f, x, c)
}

// While it is cleared it dies: nobody destroys it, and it saves nobody.
func TestClearAndDestroying(t *testing.T) {
	f := fresh(t, 60)
	a, x := one(t, f, 256), one(t, f, 256)
	b := one(t, f, a)
	notes(t, f, x, 1)
	tie(t, f, x, a, b)
	register(t, f, a, false, Destroying, uint64(a))
	register(t, f, b, false, Destroying, uint64(a))
	register(t, f, a, true, Destroying, uint64(x))
	clears(t, f, a, Event{a, Destroying, uint64(x)}, Event{x, Note, 1}, Event{b, Destroying, uint64(a)}, Event{a, Destroying, uint64(a)})
	gone(t, f, b, x)
	children(t, f, 256, a)
	if len(refs.Targets(of(t, f, a))) != 0 {
		t.Error("it refers to who is gone")
	}
}

// P27.3

// Children before parents, later children first, the other way round than they were registered, pre-cleanups ahead of children.
func TestTheOrder(t *testing.T) {
	f := fresh(t, 100)
	a := one(t, f, 256)
	stays := one(t, f, 256)
	l := many(t, f, a, 3)
	m := many(t, f, l[1], 2)
	deep := one(t, f, m[0])
	late := bytes(t, f, l[0], 3)
	names := map[api.Handle]uint64{a: 100, l[0]: 200, l[1]: 300, l[2]: 400, m[0]: 500, m[1]: 600, deep: 700, late: 800, stays: 900}
	for h, base := range names {
		notes(t, f, h, base+1, base+2)
		pres(t, f, h, base+3)
		notes(t, f, h, base+4)
		pres(t, f, h, base+5)
	}
	var wanted []Event
	ahead := func(h api.Handle) {
		wanted = append(wanted, Event{h, Note, names[h] + 5}, Event{h, Note, names[h] + 3})
	}
	behind := func(h api.Handle) {
		wanted = append(wanted, Event{h, Note, names[h] + 4}, Event{h, Note, names[h] + 2}, Event{h, Note, names[h] + 1})
	}
	ahead(a)
	ahead(l[2])
	behind(l[2])
	ahead(l[1])
	ahead(m[1])
	behind(m[1])
	ahead(m[0])
	ahead(deep)
	behind(deep)
	behind(m[0])
	behind(l[1])
	ahead(l[0])
	ahead(late)
	behind(late)
	behind(l[0])
	behind(a)
	destroys(t, f, a, wanted...)
	if got := f.Handles(); !slices.Equal(got, []api.Handle{256, stays}) {
		t.Errorf("the handles are %v", got)
	}
	pendingNotes(t, f, stays, 901, 902, 904)
}

// Whoever isn't in the subtree is what it was.
func TestTheOthersStay(t *testing.T) {
	f := fresh(t, 100)
	l := many(t, f, 256, 3)
	b := bytes(t, f, l[2], 5000)
	text := strings.Repeat("stay", 1250)
	is(t, "Write", block.Of(of(t, f, b)).Write(0, text), api.OK)
	at, e := of(t, f, l[0]).Alloc(100, 16)
	is(t, "Alloc", e, api.OK)
	is(t, "Fill", f.Fill(at, 100, 'o'), api.OK)
	notes(t, f, l[0], 1)
	for range 10 {
		bytes(t, f, l[1], 3000)
	}
	destroys(t, f, l[1])
	if s, e := block.Of(of(t, f, b)).Read(0, 5000); s != text || e != api.OK {
		t.Error("a content is another one")
	}
	if s, e := f.Bytes(at, 100); s != strings.Repeat("o", 100) || e != api.OK || of(t, f, l[0]).Mark() != at {
		t.Error("an object is another one")
	}
	children(t, f, 256, l[0], l[2])
	pendingNotes(t, f, l[0], 1)
	charged(t, f, 256, 0, 5000)
}

// A forest as deep as there are handles.
func TestAChain(t *testing.T) {
	f := fresh(t, 400)
	h := api.Handle(256)
	var wanted []Event
	for i := range api.MaxNodes - 1 {
		h = one(t, f, h)
		notes(t, f, h, uint64(i))
		wanted = append(wanted, Event{h, Note, uint64(i)})
	}
	slices.Reverse(wanted)
	clears(t, f, 256, wanted...)
	if l := f.Handles(); len(l) != 1 {
		t.Errorf("the handles are %v", l)
	}
}

// One destroys the next one, and so on: each entry is told once, what is destroyed by it right behind it.
func TestARowOfDestroying(t *testing.T) {
	f := fresh(t, 400)
	l := many(t, f, 256, api.MaxNodes-1)
	var ahead, behind []Event
	for i, h := range l {
		next := uint64(l[(i+1)%len(l)])
		notes(t, f, h, uint64(i))
		register(t, f, h, false, Destroying, next)
		ahead = append(ahead, Event{h, Destroying, next})
		behind = append(behind, Event{h, Note, uint64(i)})
	}
	slices.Reverse(behind)
	destroys(t, f, l[0], append(ahead, behind...)...)
	children(t, f, 256)
}
