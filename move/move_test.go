package move

import (
	"math"
	"slices"
	"strings"
	"testing"

	"millpond/api"
	"millpond/arena"
	"millpond/block"
	"millpond/node"
	"millpond/pool"
	"millpond/refs"
)

// nobody: numbers that are no handle of any of these tests.
var nobody = []api.Handle{0, 1, 9, 255, 511, 512, 256 << 20, math.MaxUint64}

// is: a test ends, if an error is another one than was wanted.
func is(t *testing.T, what string, got, wanted api.Errno) {
	t.Helper()
	if got != wanted {
		t.Fatalf("%s: error %d, wanted %d", what, got, wanted)
	}
}

// fresh: a new forest, of an arena of so many pages.
func fresh(t *testing.T, cap int) *pool.Forest {
	t.Helper()
	f, e := pool.New(arena.New(cap))
	is(t, "pool.New", e, api.OK)
	return f
}

// one: a pool.
func one(t *testing.T, f *pool.Forest, parent api.Handle) api.Handle {
	t.Helper()
	h, e := f.Make(parent, pool.Pool, "p", 0)
	is(t, "Make", e, api.OK)
	return h
}

// many: so many pools of one parent.
func many(t *testing.T, f *pool.Forest, parent api.Handle, n int) []api.Handle {
	t.Helper()
	var all []api.Handle
	for range n {
		all = append(all, one(t, f, parent))
	}
	return all
}

// bytes: a block.
func bytes(t *testing.T, f *pool.Forest, parent api.Handle, n int) api.Handle {
	t.Helper()
	h, e := f.Make(parent, pool.Block, "b", n)
	is(t, "Make", e, api.OK)
	return h
}

// of: the node of a handle.
func of(t *testing.T, f *pool.Forest, h api.Handle) node.Node {
	t.Helper()
	n, e := f.Node(h)
	is(t, "Node", e, api.OK)
	return n
}

// limit: a node has a limit.
func limit(t *testing.T, f *pool.Forest, h api.Handle, n int) {
	t.Helper()
	is(t, "SetLimit", f.SetLimit(of(t, f, h).Where(), n), api.OK)
}

// dies: nodes die.
func dies(t *testing.T, f *pool.Forest, handles ...api.Handle) {
	t.Helper()
	for _, h := range handles {
		of(t, f, h).Set(node.State, 1)
	}
}

// lives: nodes don't die any more.
func lives(t *testing.T, f *pool.Forest, handles ...api.Handle) {
	t.Helper()
	for _, h := range handles {
		of(t, f, h).Set(node.State, 0)
	}
}

// steals: a node is moved.
func steals(t *testing.T, f *pool.Forest, h, to api.Handle) {
	t.Helper()
	is(t, "Steal", Steal(f, h, to), api.OK)
}

// refers: a node refers to others, the first of them first.
func refers(t *testing.T, f *pool.Forest, from api.Handle, all ...api.Handle) {
	t.Helper()
	for _, to := range all {
		is(t, "Refer", Refer(f, from, to), api.OK)
	}
}

// list: does a call tell these handles?
func list(t *testing.T, what string, f *pool.Forest, call func(*pool.Forest, api.Handle) ([]api.Handle, api.Errno), h api.Handle, wanted ...api.Handle) {
	t.Helper()
	l, e := call(f, h)
	is(t, what, e, api.OK)
	if !slices.Equal(l, wanted) {
		t.Fatalf("%s of %d: %v, wanted %v", what, h, l, wanted)
	}
}

// children: are a node's these, and is it their parent?
func children(t *testing.T, f *pool.Forest, h api.Handle, wanted ...api.Handle) {
	t.Helper()
	list(t, "Children", f, Children, h, wanted...)
	for _, child := range wanted {
		parent(t, f, child, h)
	}
}

// parent: is a node's that?
func parent(t *testing.T, f *pool.Forest, h, wanted api.Handle) {
	t.Helper()
	p, e := Parent(f, h)
	is(t, "Parent", e, api.OK)
	if p != wanted {
		t.Fatalf("the parent of %d is %d, wanted %d", h, p, wanted)
	}
}

// targets: are a node's these?
func targets(t *testing.T, f *pool.Forest, h api.Handle, wanted ...api.Handle) {
	t.Helper()
	list(t, "Targets", f, Targets, h, wanted...)
}

// holders: are a node's these?
func holders(t *testing.T, f *pool.Forest, h api.Handle, wanted ...api.Handle) {
	t.Helper()
	list(t, "Holders", f, Holders, h, wanted...)
}

// sums: are nodes' sums these?
func sums(t *testing.T, f *pool.Forest, wanted map[api.Handle]int) {
	t.Helper()
	for h, n := range wanted {
		if got := f.Sum(of(t, f, h).Where()); got != n {
			t.Fatalf("the sum of %d is %d, wanted %d", h, got, n)
		}
	}
}

// same: a call changes nothing.
func same(t *testing.T, f *pool.Forest, what string, call func()) {
	t.Helper()
	before := whole(t, f)
	call()
	if whole(t, f) != before {
		t.Fatalf("%s changes something", what)
	}
}

// refused: is a call that changes nothing?
func refused(t *testing.T, f *pool.Forest, what string, call func() api.Errno, wanted api.Errno) {
	t.Helper()
	same(t, f, "a refused "+what, func() {
		t.Helper()
		is(t, what, call(), wanted)
	})
}

// whole: all bytes that are committed, page by page.
func whole(t *testing.T, f *pool.Forest) string {
	t.Helper()
	var all strings.Builder
	for from, n := range f.Pages().Rows() {
		s, e := f.Bytes(from*api.Page, n*api.Page)
		is(t, "Bytes", e, api.OK)
		all.WriteString(s)
	}
	return all.String()
}

func TestExample(t *testing.T) {
	f := fresh(t, 40)
	a := one(t, f, 256)
	b, c := one(t, f, a), one(t, f, 256)
	steals(t, f, b, c)
	parent(t, f, b, c)
	is(t, "Steal", Steal(f, c, b), api.ErrCycle)
}

// P28.1

func TestSteal(t *testing.T) {
	f := fresh(t, 60)
	l := many(t, f, 256, 3)
	below := bytes(t, f, l[0], 5)
	old := one(t, f, l[2])
	steals(t, f, l[0], l[2])
	children(t, f, 256, l[1], l[2])
	children(t, f, l[2], old, l[0])
	children(t, f, l[0], below)
	sums(t, f, map[api.Handle]int{256: 5, l[1]: 0, l[2]: 5, l[0]: 5})
	// A block may be a parent, and be moved.
	steals(t, f, l[1], below)
	steals(t, f, below, 256)
	children(t, f, 256, l[2], below)
	children(t, f, below, l[1])
	sums(t, f, map[api.Handle]int{256: 5, l[2]: 0, l[0]: 0, below: 5})
	// To the parent that it has: it is the last child.
	steals(t, f, l[2], 256)
	children(t, f, 256, below, l[2])
}

func TestReparent(t *testing.T) {
	f := fresh(t, 60)
	l := many(t, f, 256, 3)
	b := bytes(t, f, l[0], 4)
	is(t, "Reparent", Reparent(f, b, l[0], l[1]), api.OK)
	children(t, f, l[0])
	children(t, f, l[1], b)
	sums(t, f, map[api.Handle]int{256: 4, l[0]: 0, l[1]: 4})
	refused(t, f, "Reparent", func() api.Errno { return Reparent(f, b, l[0], l[1]) }, api.ErrOrder)
	refused(t, f, "Reparent", func() api.Errno { return Reparent(f, b, 256, l[2]) }, api.ErrOrder)
	refused(t, f, "Reparent", func() api.Errno { return Reparent(f, b, b, l[2]) }, api.ErrOrder)
	refused(t, f, "Reparent", func() api.Errno { return Reparent(f, 256, 256, l[2]) }, api.ErrOrder)
	refused(t, f, "Reparent", func() api.Errno { return Reparent(f, 256, l[0], l[2]) }, api.ErrOrder)
	is(t, "Reparent", Reparent(f, b, l[1], l[1]), api.OK)
	is(t, "Reparent", Reparent(f, b, l[1], 256), api.OK)
	children(t, f, 256, l[0], l[1], l[2], b)
}

func TestMovesAreRefused(t *testing.T) {
	f := fresh(t, 60)
	l := many(t, f, 256, 2)
	a, x := l[0], l[1]
	b := bytes(t, f, a, 5)
	c := one(t, f, b)
	steal := func(h, to api.Handle, wanted api.Errno) {
		t.Helper()
		refused(t, f, "Steal", func() api.Errno { return Steal(f, h, to) }, wanted)
	}
	reparent := func(h, from, to api.Handle, wanted api.Errno) {
		t.Helper()
		refused(t, f, "Reparent", func() api.Errno { return Reparent(f, h, from, to) }, wanted)
	}
	limit(t, f, x, 4)
	// What the ledger refuses.
	steal(256, x, api.ErrNone)
	steal(256, 256, api.ErrNone)
	steal(b, c, api.ErrCycle)
	steal(a, a, api.ErrCycle)
	steal(a, c, api.ErrCycle)
	steal(b, x, api.ErrLimit)
	steal(a, x, api.ErrLimit)
	reparent(b, a, c, api.ErrCycle)
	reparent(b, a, b, api.ErrCycle)
	reparent(b, a, x, api.ErrLimit)
	// Ahead of that, who dies: the node, and where it should come to.
	for _, h := range []api.Handle{a, c} {
		dies(t, f, h)
		steal(a, c, api.ErrDying)
		reparent(a, 256, c, api.ErrDying)
		lives(t, f, h)
	}
	of(t, f, 256).Set(node.State, 1<<40)
	steal(256, x, api.ErrDying)
	steal(b, 256, api.ErrDying)
	// Ahead of that, another parent.
	reparent(256, a, x, api.ErrOrder)
	reparent(b, x, 256, api.ErrOrder)
	reparent(a, a, 256, api.ErrOrder)
	// The parent, and all others, may die.
	lives(t, f, 256)
	dies(t, f, b, a)
	is(t, "Reparent", Reparent(f, c, b, x), api.OK)
	steals(t, f, c, 256)
}

func TestHandlesOfNothing(t *testing.T) {
	f := fresh(t, 60)
	l := many(t, f, 256, 3)
	a, x := l[0], l[1]
	is(t, "Remove", f.Remove(l[2]), api.OK)
	dies(t, f, a)
	for _, h := range append(nobody, l[2], a+256) {
		for _, call := range []func() api.Errno{
			func() api.Errno { return Steal(f, h, a) },
			func() api.Errno { return Steal(f, a, h) },
			func() api.Errno { return Steal(f, 256, h) },
			func() api.Errno { return Steal(f, h, h) },
			func() api.Errno { return Reparent(f, h, a, x) },
			func() api.Errno { return Reparent(f, a, h, x) },
			func() api.Errno { return Reparent(f, a, x, h) },
			func() api.Errno { return Reparent(f, h, h, h) },
			func() api.Errno { return Refer(f, h, a) },
			func() api.Errno { return Refer(f, a, h) },
			func() api.Errno { return Refer(f, h, h) },
			func() api.Errno { return Unlink(f, h, x) },
			func() api.Errno { return Unlink(f, x, h) },
			func() api.Errno { p, e := Parent(f, h); return beside(t, e, p) },
			func() api.Errno { l, e := Children(f, h); return beside(t, e, l...) },
			func() api.Errno { l, e := Targets(f, h); return beside(t, e, l...) },
			func() api.Errno { l, e := Holders(f, h); return beside(t, e, l...) },
		} {
			refused(t, f, "a call", call, api.ErrHandle)
		}
	}
	// What was refused like that used up no serial.
	if n := f.Serial(); n != 1 {
		t.Errorf("the next serial is %d", n)
	}
}

// beside: is nothing told beside an error?
func beside(t *testing.T, e api.Errno, all ...api.Handle) api.Errno {
	t.Helper()
	for _, h := range all {
		if h != 0 {
			t.Errorf("%v is told beside an error", all)
		}
	}
	return e
}

func TestNil(t *testing.T) {
	for _, h := range append(nobody, 256) {
		is(t, "Steal", Steal(nil, h, h), api.ErrNil)
		is(t, "Reparent", Reparent(nil, h, h, h), api.ErrNil)
		is(t, "Refer", Refer(nil, h, 256), api.ErrNil)
		is(t, "Unlink", Unlink(nil, h, 256), api.ErrNil)
		p, e := Parent(nil, h)
		is(t, "Parent", beside(t, e, p), api.ErrNil)
		l, e := Children(nil, h)
		is(t, "Children", beside(t, e, l...), api.ErrNil)
		l, e = Targets(nil, h)
		is(t, "Targets", beside(t, e, l...), api.ErrNil)
		l, e = Holders(nil, h)
		is(t, "Holders", beside(t, e, l...), api.ErrNil)
	}
}

// P28.2

func TestRefer(t *testing.T) {
	f := fresh(t, 60)
	l := many(t, f, 256, 2)
	a, b := l[0], l[1]
	c := bytes(t, f, a, 3)
	refers(t, f, a, b, 256, c)
	refers(t, f, c, a, b)
	refers(t, f, 256, b)
	targets(t, f, a, b, 256, c)
	targets(t, f, c, a, b)
	targets(t, f, 256, b)
	targets(t, f, b)
	holders(t, f, b, a, c, 256)
	holders(t, f, a, c)
	holders(t, f, c, a)
	holders(t, f, 256, a)
	// By the serials of all the forest, one a link.
	if all := refs.Holders(of(t, f, b)); !slices.Equal(all, []refs.Link{{Who: uint64(a), Serial: 1}, {Who: uint64(c), Serial: 5}, {Who: 256, Serial: 6}}) {
		t.Errorf("the links are %v", all)
	}
	if n := f.Serial(); n != 7 {
		t.Errorf("the next serial is %d", n)
	}
	// Nobody is moved, or charged, by that.
	children(t, f, 256, a, b)
	children(t, f, a, c)
	sums(t, f, map[api.Handle]int{256: 3, a: 3, b: 0})
}

// Where it can't be there is no link, but the serial is used up.
func TestReferIsRefused(t *testing.T) {
	f := fresh(t, 80)
	l := many(t, f, 256, 10)
	serial := uint64(0)
	refuse := func(from, to api.Handle, wanted api.Errno) {
		t.Helper()
		before := [...]int{len(refs.Targets(of(t, f, from))), len(refs.Holders(of(t, f, to)))}
		is(t, "Refer", Refer(f, from, to), wanted)
		if before != [...]int{len(refs.Targets(of(t, f, from))), len(refs.Holders(of(t, f, to)))} {
			t.Fatal("a refused Refer lays a link")
		}
		// The one that it used up, and this one.
		serial += 2
		if n := f.Serial(); n != serial {
			t.Fatalf("the next serial is %d, wanted %d", n, serial)
		}
	}
	refuse(l[0], l[0], api.ErrCycle)
	refuse(256, 256, api.ErrCycle)
	refers(t, f, l[0], l[1])
	serial++
	refuse(l[0], l[1], api.ErrThere)
	// As many as there is room for.
	refers(t, f, l[0], l[2:9]...)
	serial += 7
	refuse(l[0], l[9], api.ErrFull)
	refuse(l[0], l[8], api.ErrThere)
	refuse(l[0], l[0], api.ErrCycle)
	for _, h := range l[1:9] {
		refers(t, f, h, l[9])
		serial++
	}
	refuse(256, l[9], api.ErrFull)
	targets(t, f, l[0], l[1:9]...)
	holders(t, f, l[9], l[1:9]...)
	// Room comes, where one is unlinked.
	is(t, "Unlink", Unlink(f, l[3], l[9]), api.OK)
	refers(t, f, 256, l[9])
	holders(t, f, l[9], l[1], l[2], l[4], l[5], l[6], l[7], l[8], 256)
}

// Who dies refers to nobody more, nor does anybody to it; that comes ahead of all that links refuse, and no serial is used.
func TestReferAndWhoDies(t *testing.T) {
	f := fresh(t, 60)
	l := many(t, f, 256, 3)
	refers(t, f, l[0], l[1])
	dies(t, f, l[1])
	for _, c := range [][2]api.Handle{{l[0], l[1]}, {l[1], l[1]}, {l[1], l[2]}, {l[2], l[1]}} {
		refused(t, f, "Refer", func() api.Errno { return Refer(f, c[0], c[1]) }, api.ErrDying)
	}
	refers(t, f, l[0], l[2])
	dies(t, f, 256)
	refers(t, f, l[2], l[0])
	// It may be unlinked even so.
	is(t, "Unlink", Unlink(f, l[0], l[1]), api.OK)
	targets(t, f, l[0], l[2])
	holders(t, f, l[1])
}

func TestUnlink(t *testing.T) {
	f := fresh(t, 60)
	l := many(t, f, 256, 4)
	a, b, c, d := l[0], l[1], l[2], l[3]
	refers(t, f, a, b, c, d)
	refers(t, f, b, a)
	refers(t, f, d, c)
	for _, x := range [][2]api.Handle{{c, a}, {a, a}, {a, 256}, {256, a}, {c, d}, {b, c}} {
		refused(t, f, "Unlink", func() api.Errno { return Unlink(f, x[0], x[1]) }, api.ErrNone)
	}
	is(t, "Unlink", Unlink(f, a, c), api.OK)
	refused(t, f, "Unlink", func() api.Errno { return Unlink(f, a, c) }, api.ErrNone)
	targets(t, f, a, b, d)
	holders(t, f, c, d)
	// That another one refers back is no matter.
	is(t, "Unlink", Unlink(f, a, b), api.OK)
	targets(t, f, b, a)
	holders(t, f, b)
	holders(t, f, a, b)
	// Once more it is the newest link.
	refers(t, f, a, c)
	targets(t, f, a, d, c)
	holders(t, f, c, d, a)
}

// P28.3

func TestWhoIsWhose(t *testing.T) {
	f := fresh(t, 60)
	parent(t, f, 256, 0)
	children(t, f, 256)
	targets(t, f, 256)
	holders(t, f, 256)
	l := many(t, f, 256, 3)
	m := many(t, f, l[1], 2)
	same(t, f, "a call that tells", func() {
		parent(t, f, 256, 0)
		children(t, f, 256, l...)
		children(t, f, l[1], m...)
		children(t, f, l[0])
		children(t, f, m[1])
		targets(t, f, m[1])
		holders(t, f, m[1])
	})
	// By the order among the children, not by handles.
	is(t, "Remove", f.Remove(l[0]), api.OK)
	again := one(t, f, 256)
	children(t, f, 256, l[1], l[2], again)
	// What is told is nobody's but the caller's.
	all, _ := Children(f, 256)
	all[0] = 0
	children(t, f, 256, l[1], l[2], again)
	refers(t, f, l[1], l[2])
	all, _ = Targets(f, l[1])
	all[0] = 0
	targets(t, f, l[1], l[2])
	// Over a clone it is the same.
	twin, e := pool.Open(f.Clone())
	is(t, "Open", e, api.OK)
	children(t, twin, 256, l[1], l[2], again)
	targets(t, twin, l[1], l[2])
	holders(t, twin, l[2], l[1])
}

// The oldest link comes first: that of the least serial, whenever it came.
func TestTheOldestFirst(t *testing.T) {
	f := fresh(t, 60)
	l := many(t, f, 256, 4)
	for i, serial := range []uint64{70, 5, 30} {
		is(t, "Tie", refs.Tie(of(t, f, l[0]), of(t, f, l[i+1]), serial), api.OK)
		is(t, "Tie", refs.Tie(of(t, f, l[i+1]), of(t, f, l[0]), serial+1), api.OK)
	}
	targets(t, f, l[0], l[2], l[3], l[1])
	holders(t, f, l[0], l[2], l[3], l[1])
}

// P28.4

// Whoever is moved is as it was, with all that is below it.
func TestWhatIsMovedIsComplete(t *testing.T) {
	f := fresh(t, 100)
	l := many(t, f, 256, 2)
	a, x := l[0], l[1]
	b := bytes(t, f, a, 9000)
	c := one(t, f, b)
	d := one(t, f, b)
	at, e := of(t, f, c).Alloc(100, 16)
	is(t, "Alloc", e, api.OK)
	is(t, "Fill", f.Fill(at, 100, 'c'), api.OK)
	text := strings.Repeat("move", 2250)
	is(t, "Write", block.Of(of(t, f, b)).Write(0, text), api.OK)
	limit(t, f, b, 9500)
	refers(t, f, c, a, x)
	refers(t, f, x, b, d)
	handles := f.Handles()
	look := func() {
		t.Helper()
		if s, e := block.Of(of(t, f, b)).Read(0, 9000); s != text || e != api.OK {
			t.Error("the content is another one")
		}
		if s, e := f.Bytes(at, 100); s != strings.Repeat("c", 100) || e != api.OK || of(t, f, c).Mark() != at {
			t.Error("the object is another one")
		}
		if most, some := f.Limit(of(t, f, b).Where()); most != 9500 || !some || !slices.Equal(f.Handles(), handles) {
			t.Error("the limit, or the handles, are others")
		}
		children(t, f, b, c, d)
		targets(t, f, c, a, x)
		holders(t, f, b, x)
		holders(t, f, d, x)
		sums(t, f, map[api.Handle]int{256: 9000, b: 9000, c: 0})
	}
	steals(t, f, b, x)
	look()
	children(t, f, x, b)
	sums(t, f, map[api.Handle]int{a: 0, x: 9000})
	is(t, "Reparent", Reparent(f, b, x, a), api.OK)
	look()
	children(t, f, a, b)
	sums(t, f, map[api.Handle]int{a: 9000, x: 0})
}

// What is moved there and back is where it was, if it was the last child: not a byte is another one.
func TestThereAndBack(t *testing.T) {
	f := fresh(t, 60)
	l := many(t, f, 256, 2)
	a, x := l[0], l[1]
	first, last := bytes(t, f, a, 4), bytes(t, f, a, 5)
	deep := one(t, f, last)
	bytes(t, f, x, 6)
	limit(t, f, a, 9)
	limit(t, f, x, 11)
	refers(t, f, x, deep)
	same(t, f, "a way there and back", func() {
		for range 3 {
			steals(t, f, last, x)
			steals(t, f, last, a)
			steals(t, f, last, first)
			is(t, "Reparent", Reparent(f, last, first, a), api.OK)
			steals(t, f, last, a)
		}
	})
	// Another one is the last child then.
	steals(t, f, first, x)
	steals(t, f, first, a)
	children(t, f, a, last, first)
}
