package pool

import (
	"math"
	"slices"
	"strings"
	"testing"

	"millpond/api"
	"millpond/arena"
	"millpond/block"
	"millpond/buddy"
	"millpond/census"
	"millpond/handle"
	"millpond/node"
	"millpond/recycler"
	"millpond/refs"
	"millpond/view"
)

// first: the least cap of an arena that has a forest: a page of the buddy's, two of the forest's own run, one of the ground's chunk.
const first = 4

// most: so many bytes has the greatest content, behind a chunk's header and its own.
const most = api.Page<<api.MaxOrder - 48

// inFront: so many bytes of content have room in the chunk of its node, of order 0.
const inFront = api.Page - api.Front - api.Small

// nobody: numbers that are no handle of a forest that has never had more than some nodes.
var nobody = []api.Handle{0, 1, 9, 255, 512, 1023, 256 << 20, math.MaxUint64 - 255, math.MaxUint64}

// is: a test ends, if an error is another one than was wanted.
func is(t *testing.T, what string, got, wanted api.Errno) {
	t.Helper()
	if got != wanted {
		t.Fatalf("%s: error %d, wanted %d", what, got, wanted)
	}
}

// fresh: a new forest, of an arena that has so many pages more than a new forest needs.
func fresh(t *testing.T, pages int) *Forest {
	t.Helper()
	f, e := New(arena.New(first + pages))
	is(t, "New", e, api.OK)
	return f
}

// anew: the forest over an arena where one stands already.
func anew(t *testing.T, a *arena.Arena) *Forest {
	t.Helper()
	f, e := Open(a)
	is(t, "Open", e, api.OK)
	return f
}

// create: a node more.
func create(t *testing.T, f *Forest, parent api.Handle, kind uint64, name string, n int) api.Handle {
	t.Helper()
	h, e := f.Make(parent, kind, name, n)
	is(t, "Make", e, api.OK)
	return h
}

// pools: so many pools of one parent.
func pools(t *testing.T, f *Forest, parent api.Handle, many int) []api.Handle {
	t.Helper()
	var all []api.Handle
	for range many {
		all = append(all, create(t, f, parent, Pool, "p", 0))
	}
	return all
}

// of: the node of a handle.
func of(t *testing.T, f *Forest, h api.Handle) node.Node {
	t.Helper()
	n, e := f.Node(h)
	is(t, "Node", e, api.OK)
	if n.Get(node.Handle) != uint64(h) || n.Owner() != uint64(h) {
		t.Fatalf("the node of %d is that of %d", h, n.Get(node.Handle))
	}
	return n
}

// where: the addresses of nodes.
func where(t *testing.T, f *Forest, handles ...api.Handle) []int {
	t.Helper()
	var all []int
	for _, h := range handles {
		all = append(all, of(t, f, h).Where())
	}
	return all
}

// handles: are they these?
func handles(t *testing.T, f *Forest, wanted ...api.Handle) {
	t.Helper()
	if got := f.Handles(); !slices.Equal(got, wanted) {
		t.Fatalf("the handles are %v, wanted %v", got, wanted)
	}
}

// children: are a node's these?
func children(t *testing.T, f *Forest, h api.Handle, wanted ...api.Handle) {
	t.Helper()
	if got := f.Children(where(t, f, h)[0]); !slices.Equal(got, where(t, f, wanted...)) {
		t.Fatalf("the children of %d are at %v, wanted %v", h, got, wanted)
	}
	for _, at := range where(t, f, wanted...) {
		if f.Parent(at) != where(t, f, h)[0] {
			t.Fatalf("a child of %d has another parent", h)
		}
	}
}

// gone: a handle is of nothing.
func gone(t *testing.T, f *Forest, h api.Handle) {
	t.Helper()
	if n, e := f.Node(h); n != (node.Node{}) || e != api.ErrHandle {
		t.Fatalf("of %d there is a node, error %d", h, e)
	}
}

// tie: a node refers to another one.
func tie(t *testing.T, f *Forest, from, to api.Handle, serial uint64) {
	t.Helper()
	is(t, "Tie", refs.Tie(of(t, f, from), of(t, f, to), serial), api.OK)
}

// whole: all bytes that are committed, page by page.
func whole(t *testing.T, a *arena.Arena) string {
	t.Helper()
	var all strings.Builder
	for from, n := range a.Pages().Rows() {
		s, e := a.Bytes(from*api.Page, n*api.Page)
		is(t, "Bytes", e, api.OK)
		all.WriteString(s)
	}
	return all.String()
}

// same: a call changes nothing.
func same(t *testing.T, a *arena.Arena, what string, call func()) {
	t.Helper()
	before := whole(t, a)
	call()
	if whole(t, a) != before {
		t.Fatalf("%s changes something", what)
	}
}

// refused: no node is made, and nothing is done.
func refused(t *testing.T, f *Forest, parent api.Handle, kind uint64, name string, n int, wanted api.Errno) {
	t.Helper()
	same(t, f.Arena, "a refused Make", func() {
		t.Helper()
		if h, e := f.Make(parent, kind, name, n); h != 0 || e != wanted {
			t.Fatalf("Make(%d, %d, %q, %d): %d, error %d, wanted error %d", parent, kind, name, n, h, e, wanted)
		}
	})
}

// ground: is there nothing but the ground?
func ground(t *testing.T, f *Forest) {
	t.Helper()
	if f.Ground() != 256 {
		t.Fatalf("the ground is %d", f.Ground())
	}
	handles(t, f, 256)
	n := of(t, f, 256)
	if n.Name() != "" || n.Get(node.Kind) != Pool || n.Get(node.State) != 0 || n.Get(node.Level) != 0 || len(n.Chunks()) != 1 || len(n.Objects()) != 0 {
		t.Fatalf("the ground is %q, of the kind %d", n.Name(), n.Get(node.Kind))
	}
	at := n.Where()
	if f.Parent(at) != 0 || len(f.Children(at)) != 0 || f.Own(at) != 0 || f.Sum(at) != 0 {
		t.Fatal("the ground has a parent, children, or a charge")
	}
	if _, some := f.Limit(at); some {
		t.Fatal("the ground has a limit")
	}
	if len(refs.Targets(n)) != 0 || len(refs.Holders(n)) != 0 {
		t.Fatal("the ground has links")
	}
}

func TestExample(t *testing.T) {
	f := fresh(t, 20)
	if f.Ground() != 256 {
		t.Errorf("the ground is %d", f.Ground())
	}
	if h, e := f.Make(256, Pool, "a", 0); h != 257 || e != api.OK {
		t.Errorf("Make: %d, error %d", h, e)
	}
}

// P25.1

func TestKinds(t *testing.T) {
	if Pool != 1 || Block != 2 {
		t.Errorf("the kinds are %d and %d", Pool, Block)
	}
}

func TestNew(t *testing.T) {
	for _, cap := range []int{first, first + 1, 20, 3840, 3841 + first, api.MaxPages} {
		a := arena.New(cap)
		f, e := New(a)
		is(t, "New", e, api.OK)
		if f.Arena != a {
			t.Fatal("its arena is another one")
		}
		ground(t, f)
		own := f.Base() * api.Page
		at := of(t, f, 256).Where()
		if wanted := []buddy.Run{{At: own, Order: 1, Taken: true}, {At: own + 2*api.Page, Order: 0, Taken: true}}; !slices.Equal(f.Runs(), wanted) || at != wanted[1].At {
			t.Fatalf("of cap %d: the runs are %v, the ground is at %d", cap, f.Runs(), at)
		}
		if f.Keeps() != 16 || f.Cached() != 0 || f.Committed() != f.Base()+3 {
			t.Fatalf("of cap %d: it keeps %d pages, %d are cached, %d committed", cap, f.Keeps(), f.Cached(), f.Committed())
		}
	}
}

// The first 64 bytes of the forest's own run are a recycler's, its second page is a table of handles.
func TestItsOwnRun(t *testing.T) {
	f := fresh(t, 20)
	a := create(t, f, 256, Pool, "a", 0)
	own := f.Base() * api.Page
	v, e := view.Of(f.Arena, own, 64)
	is(t, "view.Of", e, api.OK)
	r, e := recycler.Open(f.Buddy, v)
	is(t, "recycler.Open", e, api.OK)
	r.Keep(3)
	is(t, "Remove", f.Remove(a), api.OK)
	if f.Keeps() != 3 || f.Cached() != 1 || r.Cached() != 1 {
		t.Errorf("it keeps %d pages, %d are cached, and of the recycler %d", f.Keeps(), f.Cached(), r.Cached())
	}
	v, e = view.Of(f.Arena, own+api.Page, api.Page)
	is(t, "view.Of", e, api.OK)
	names := handle.Open(v)
	b := create(t, f, 256, Pool, "b", 0)
	at, e := names.Get(b)
	if e != api.OK || at != where(t, f, b)[0] || !slices.Equal(names.All(), []api.Handle{256, 513}) || names.Len() != 256 {
		t.Errorf("the table tells %v, and %d of b, error %d", names.All(), at, e)
	}
}

func TestNewRefuses(t *testing.T) {
	none := func(what string, a *arena.Arena, wanted api.Errno) {
		t.Helper()
		before := a.Pages()
		if f, e := New(a); f != nil || e != wanted {
			t.Fatalf("%s: error %d, wanted %d", what, e, wanted)
		}
		if a.Committed() != countOf(before.Rows()) {
			t.Fatalf("%s: %d pages are committed", what, a.Committed())
		}
	}
	none("of nil", nil, api.ErrNil)
	for _, cap := range []int{-1, 0, 1} {
		none("without a page to give", arena.New(cap), api.ErrRange)
	}
	for _, cap := range []int{2, 3} {
		a := arena.New(cap)
		none("without pages", a, api.ErrNoMemory)
		none("without pages, again", a, api.ErrNoMemory)
		if _, e := buddy.Open(a); e != api.ErrKind {
			t.Fatalf("of cap %d: a buddy is left", cap)
		}
	}
	a := arena.New(20)
	is(t, "Commit", a.Commit(0, 1), api.OK)
	none("of a page that is committed", a, api.ErrThere)
	f := fresh(t, 20)
	create(t, f, 256, Pool, "a", 0)
	same(t, f.Arena, "New", func() {
		none("of an arena that has one", f.Arena, api.ErrThere)
	})
	handles(t, f, 256, 257)
}

// countOf: how many numbers rows have.
func countOf(rows func(func(int, int) bool)) int {
	all := 0
	for _, n := range rows {
		all += n
	}
	return all
}

// Of whichever Commit is refused: nothing is left, so that the next one is as if it was the first.
func TestNewWhereAPageIsRefused(t *testing.T) {
	for after := range 3 {
		a := arena.New(20)
		a.Refuse(after)
		if f, e := New(a); f != nil || e != api.ErrNoMemory {
			t.Fatalf("behind %d: error %d", after, e)
		}
		if a.Committed() != 0 {
			t.Fatalf("behind %d: %d pages are committed", after, a.Committed())
		}
		if f, e := Open(a); f != nil || e != api.ErrKind {
			t.Fatalf("behind %d: Open: error %d", after, e)
		}
		f, e := New(a)
		is(t, "New", e, api.OK)
		ground(t, f)
		if whole(t, a) != whole(t, fresh(t, 20-first).Arena) {
			t.Fatalf("behind %d: it is another one", after)
		}
	}
	a := arena.New(20)
	a.Refuse(3)
	f, e := New(a)
	is(t, "New", e, api.OK)
	if h, e := f.Make(256, Pool, "", 0); h != 0 || e != api.ErrNoMemory {
		t.Errorf("Make: %d, error %d", h, e)
	}
}

// All that a forest knows is in the arena: over it there is the same one, over a clone one that is alike.
func TestOpen(t *testing.T) {
	for _, cap := range []int{20, 5000} {
		f, e := New(arena.New(cap))
		is(t, "New", e, api.OK)
		ground(t, anew(t, f.Arena))
		a := create(t, f, 256, Pool, "a", 0)
		b := create(t, f, a, Block, "b", 5)
		f.Keep(7)
		f.Serial()
		twin := anew(t, f.Clone())
		other := anew(t, f.Arena)
		for _, x := range []*Forest{f, twin, other} {
			handles(t, x, 256, a, b)
			children(t, x, 256, a)
			children(t, x, a, b)
			if x.Ground() != 256 || of(t, x, b).Name() != "b" || block.Of(of(t, x, b)).Len() != 5 || x.Sum(where(t, x, a)[0]) != 5 || x.Keeps() != 7 {
				t.Fatal("it is another one")
			}
		}
		is(t, "Remove", twin.Remove(b), api.OK)
		c := create(t, other, a, Pool, "c", 0)
		children(t, f, a, b, c)
		children(t, twin, a)
		if f.Serial() != 2 || other.Serial() != 3 || twin.Serial() != 2 {
			t.Error("the serials are others")
		}
	}
}

func TestOpenRefuses(t *testing.T) {
	none := func(what string, a *arena.Arena, wanted api.Errno) {
		t.Helper()
		if f, e := Open(a); f != nil || e != wanted {
			t.Fatalf("%s: error %d, wanted %d", what, e, wanted)
		}
	}
	none("of nil", nil, api.ErrNil)
	for _, cap := range []int{0, 1, 2, 20, 4000} {
		a := arena.New(cap)
		none("of no pages", a, api.ErrKind)
		a.Commit(0, min(cap, 20))
		none("of noughts", a, api.ErrKind)
		a.Fill(0, api.Page*min(cap, 20), 255)
		none("of all the same", a, api.ErrKind)
	}
	for order := -1; order <= 4; order++ {
		b, e := buddy.New(arena.New(40))
		is(t, "buddy.New", e, api.OK)
		if order >= 0 {
			at, e := b.Alloc(order)
			is(t, "Alloc", e, api.OK)
			is(t, "Fill", b.Fill(at, api.Page<<order, 1), api.OK)
		}
		none("of a buddy, but no forest", b.Arena, api.ErrKind)
		b.Alloc(0)
		none("of a buddy, but no forest", b.Arena, api.ErrKind)
	}
}

// A recycler with a table and nodes is no forest yet.
func TestOpenOfLayersAlone(t *testing.T) {
	b, e := buddy.New(arena.New(40))
	is(t, "buddy.New", e, api.OK)
	at, e := b.Alloc(1)
	is(t, "Alloc", e, api.OK)
	v, e := view.Of(b.Arena, at, 64)
	is(t, "view.Of", e, api.OK)
	r, e := recycler.New(b, v)
	is(t, "recycler.New", e, api.OK)
	v, e = view.Of(b.Arena, at+api.Page, api.Page)
	is(t, "view.Of", e, api.OK)
	n, e := node.Make(r, 0, 256, "")
	is(t, "node.Make", e, api.OK)
	_, e = handle.Open(v).New(n.Where())
	is(t, "handle.New", e, api.OK)
	for _, x := range []uint64{0, 1, 256, math.MaxUint64} {
		for place := at + 64; place < at+api.Page; place += 8 {
			is(t, "Store", b.Store(place, 8, x), api.OK)
		}
		same(t, b.Arena, "Open", func() {
			if f, e := Open(b.Arena); f != nil || e != api.ErrKind {
				t.Fatalf("Open: error %d", e)
			}
		})
	}
}

func TestSerial(t *testing.T) {
	f := fresh(t, 20)
	for i := range uint64(600) {
		if n := f.Serial(); n != i+1 {
			t.Fatalf("the serial is %d, wanted %d", n, i+1)
		}
		if i%100 == 0 {
			create(t, f, 256, Pool, "", 0)
			f = anew(t, f.Clone())
		}
	}
}

func TestNil(t *testing.T) {
	var f *Forest
	if f.Ground() != 0 || len(f.Handles()) != 0 || f.Serial() != 0 || f.Serial() != 0 {
		t.Error("nil tells something")
	}
	for _, h := range append(nobody, 256) {
		if n, e := f.Node(h); n != (node.Node{}) || e != api.ErrNil {
			t.Errorf("Node: error %d", e)
		}
		is(t, "Remove", f.Remove(h), api.ErrNil)
		for _, n := range []int{math.MinInt, -1, 0, 1, math.MaxInt} {
			if h, e := f.Make(h, uint64(n), "seventeen letters", n); h != 0 || e != api.ErrNil {
				t.Errorf("Make: %d, error %d", h, e)
			}
		}
	}
}

func TestNode(t *testing.T) {
	f := fresh(t, 20)
	gone(t, f, 257)
	a := create(t, f, 256, Pool, "a", 0)
	b := create(t, f, a, Block, "b", 7)
	if of(t, f, a).Name() != "a" || of(t, f, b).Name() != "b" || of(t, f, a).Get(node.Kind) != Pool || of(t, f, b).Get(node.Kind) != Block {
		t.Error("the nodes are others")
	}
	for _, h := range append(nobody, a+256, b+256, b+1) {
		gone(t, f, h)
	}
	// What is asked of a node by its handle is asked of that alone.
	of(t, f, a).Set(node.Block, 9)
	if of(t, f, a).Get(node.Block) != 9 || of(t, f, b).Get(node.Block) != 0 {
		t.Error("the nodes aren't the forest's")
	}
}

// What a forest doesn't answer itself its ledger does.
func TestItsLedger(t *testing.T) {
	f := fresh(t, 20)
	a := create(t, f, 256, Pool, "a", 0)
	b := create(t, f, a, Block, "b", 7)
	at := where(t, f, 256, a, b)
	is(t, "SetLimit", f.SetLimit(at[1], 10), api.OK)
	is(t, "Charge", f.Charge(at[1], 4), api.ErrLimit)
	is(t, "Charge", f.Charge(at[1], 3), api.OK)
	if f.Ledger.Sum(at[0]) != 10 || f.Tree.Parent(at[2]) != at[1] || !f.Under(at[2], at[0]) || !slices.Equal(f.Down(at[0]), at) || f.Trim() != 0 || f.Cap() != 24 {
		t.Error("the ledger is another one")
	}
}

// P25.4

// Of a forest whose nodes are all gone but the ground: the pages are those of a new one.
func TestWhatIsLeft(t *testing.T) {
	for _, pages := range []int{20, 200, 2000} {
		f := fresh(t, pages)
		var all []api.Handle
		for i := range 17 {
			parent := api.Handle(256)
			if i%3 > 0 {
				parent = all[i-1]
			}
			h, e := f.Make(parent, uint64(1+i%2), "n", i%2*i*1000)
			if e != api.OK {
				is(t, "Make", e, api.ErrNoMemory)
				break
			}
			all = append(all, h)
		}
		owned(t, f)
		for len(all) > 0 {
			all = slices.DeleteFunc(all, func(h api.Handle) bool { return f.Remove(h) == api.OK })
			owned(t, f)
		}
		f.Trim()
		asNew(t, f)
	}
}

// owned: each chunk that is owned is one node's, and all taken pages are those chunks', the cache's, and the forest's own.
func owned(t *testing.T, f *Forest) {
	t.Helper()
	pages, whose := 2, map[int]api.Handle{}
	for _, h := range f.Handles() {
		for _, c := range of(t, f, h).Chunks() {
			if c.Owner != uint64(h) || whose[c.At] != 0 {
				t.Fatalf("the chunk %v of %d is %d's", c, h, whose[c.At])
			}
			whose[c.At] = h
			pages += 1 << c.Order
		}
	}
	if taken := census.Count(f.Buddy, census.Taken); taken != pages+f.Cached() || !census.Right(f.Buddy) {
		t.Fatalf("taken are %d pages, of nodes and the forest's own %d, cached %d", taken, pages, f.Cached())
	}
}

// asNew: are the pages those of a new forest that has grown alike?
func asNew(t *testing.T, f *Forest) {
	t.Helper()
	twin, e := New(arena.New(f.Cap()))
	is(t, "New", e, api.OK)
	for twin.Grown() < f.Grown() {
		is(t, "Grow", twin.Grow(0), api.OK)
	}
	if !slices.Equal(f.Runs(), twin.Runs()) || f.Committed() != twin.Committed() || f.Cached() != 0 {
		t.Fatalf("the runs are %v, wanted %v", f.Runs(), twin.Runs())
	}
}
