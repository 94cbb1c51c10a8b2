package keep

import (
	"math"
	"slices"
	"strings"
	"testing"

	"millpond/api"
	"millpond/arena"
	"millpond/block"
	"millpond/node"
	"millpond/pool"
	"millpond/refs"
)

// nobody: numbers that are no handle of any of these tests.
var nobody = []api.Handle{0, 1, 9, 255, 511, 512, 256 << 20, math.MaxUint64}

// is: a test ends, if an error is another one than was wanted.
func is(t *testing.T, what string, got, wanted api.Errno) {
	t.Helper()
	if got != wanted {
		t.Fatalf("%s: error %d, wanted %d", what, got, wanted)
	}
}

// fresh: a new forest, of an arena of so many pages.
func fresh(t *testing.T, cap int) *pool.Forest {
	t.Helper()
	f, e := pool.New(arena.New(cap))
	is(t, "pool.New", e, api.OK)
	return f
}

// create: pools, of one parent.
func create(t *testing.T, f *pool.Forest, parent api.Handle, names ...string) []api.Handle {
	t.Helper()
	var all []api.Handle
	for _, name := range names {
		h, e := f.Make(parent, pool.Pool, name, 0)
		is(t, "Make", e, api.OK)
		all = append(all, h)
	}
	return all
}

// one: a pool.
func one(t *testing.T, f *pool.Forest, parent api.Handle) api.Handle {
	t.Helper()
	return create(t, f, parent, "p")[0]
}

// bytes: a block.
func bytes(t *testing.T, f *pool.Forest, parent api.Handle, n int) api.Handle {
	t.Helper()
	h, e := f.Make(parent, pool.Block, "b", n)
	is(t, "Make", e, api.OK)
	return h
}

// of: the node of a handle.
func of(t *testing.T, f *pool.Forest, h api.Handle) node.Node {
	t.Helper()
	n, e := f.Node(h)
	is(t, "Node", e, api.OK)
	return n
}

// tie: a node is held by others, the first of them first.
func tie(t *testing.T, f *pool.Forest, to api.Handle, holders ...api.Handle) {
	t.Helper()
	for _, h := range holders {
		is(t, "Tie", refs.Tie(of(t, f, h), of(t, f, to), f.Serial()), api.OK)
	}
}

// limit: a node has a limit.
func limit(t *testing.T, f *pool.Forest, h api.Handle, n int) {
	t.Helper()
	is(t, "SetLimit", f.SetLimit(of(t, f, h).Where(), n), api.OK)
}

// dies: nodes die.
func dies(t *testing.T, f *pool.Forest, handles ...api.Handle) {
	t.Helper()
	for _, h := range handles {
		of(t, f, h).Set(node.State, 1)
	}
}

// savers: are a node's these?
func savers(t *testing.T, f *pool.Forest, h, top api.Handle, wanted ...api.Handle) {
	t.Helper()
	same(t, f, "Savers", func() {
		t.Helper()
		if got := Savers(f, h, top); !slices.Equal(got, wanted) {
			t.Fatalf("%d is saved by %v when %d goes, wanted %v", h, got, top, wanted)
		}
	})
}

// moves: does Save move these?
func moves(t *testing.T, f *pool.Forest, top api.Handle, whole bool, wanted ...Kept) {
	t.Helper()
	if got, e := Save(f, top, whole); e != api.OK || !slices.Equal(got, wanted) {
		t.Fatalf("Save of %d, %t: %v, error %d, wanted %v", top, whole, got, e, wanted)
	}
}

// children: are a node's these?
func children(t *testing.T, f *pool.Forest, h api.Handle, wanted ...api.Handle) {
	t.Helper()
	var all []int
	for _, child := range wanted {
		all = append(all, of(t, f, child).Where())
	}
	if got := f.Children(of(t, f, h).Where()); !slices.Equal(got, all) {
		t.Fatalf("the children of %d are at %v, wanted %v", h, got, wanted)
	}
}

// sums: are nodes' sums these?
func sums(t *testing.T, f *pool.Forest, wanted map[api.Handle]int) {
	t.Helper()
	for h, n := range wanted {
		if got := f.Sum(of(t, f, h).Where()); got != n {
			t.Fatalf("the sum of %d is %d, wanted %d", h, got, n)
		}
	}
}

// same: a call changes nothing.
func same(t *testing.T, f *pool.Forest, what string, call func()) {
	t.Helper()
	before := whole(t, f)
	call()
	if whole(t, f) != before {
		t.Fatalf("%s changes something", what)
	}
}

// whole: all bytes that are committed, page by page.
func whole(t *testing.T, f *pool.Forest) string {
	t.Helper()
	var all strings.Builder
	for from, n := range f.Pages().Rows() {
		s, e := f.Bytes(from*api.Page, n*api.Page)
		is(t, "Bytes", e, api.OK)
		all.WriteString(s)
	}
	return all.String()
}

func TestExample(t *testing.T) {
	for _, all := range []bool{true, false} {
		f := fresh(t, 40)
		a, c := one(t, f, 256), one(t, f, 256)
		b := one(t, f, a)
		tie(t, f, b, c)
		moves(t, f, a, all, Kept{Node: b, To: c})
		children(t, f, a)
		children(t, f, c, b)
	}
}

// P26.1

func TestSavers(t *testing.T) {
	f := fresh(t, 40)
	l := create(t, f, 256, "a", "x", "y", "z")
	a, x, y, z := l[0], l[1], l[2], l[3]
	b := one(t, f, a)
	c := one(t, f, b)
	d := one(t, f, a)
	savers(t, f, c, a)
	tie(t, f, c, z, d, x, b, 256, y, a)
	// Of all holders those that aren't in the subtree, the oldest link first.
	savers(t, f, c, 256)
	savers(t, f, c, a, z, x, 256, y)
	savers(t, f, c, b, z, d, x, 256, y, a)
	savers(t, f, c, c, z, d, x, b, 256, y, a)
	savers(t, f, b, a)
	savers(t, f, a, a)
	// Whoever dies saves nobody; who is saved may die.
	dies(t, f, x, 256, a, c)
	savers(t, f, c, a, z, y)
	savers(t, f, c, b, z, d, y)
	of(t, f, x).Set(node.State, 0)
	of(t, f, z).Set(node.State, math.MaxUint64)
	savers(t, f, c, a, x, y)
	// Who doesn't hold it any more doesn't save it, either, nor does one that is gone.
	is(t, "Untie", refs.Untie(of(t, f, x), of(t, f, c)), api.OK)
	savers(t, f, c, a, y)
	is(t, "Remove", f.Remove(y), api.OK)
	savers(t, f, c, a)
}

// The oldest link is that of the least serial, whenever it came.
func TestSaversBySerials(t *testing.T) {
	f := fresh(t, 40)
	l := create(t, f, 256, "a", "x", "y", "z")
	for i, serial := range []uint64{70, 5, 30} {
		is(t, "Tie", refs.Tie(of(t, f, l[i+1]), of(t, f, l[0]), serial), api.OK)
	}
	savers(t, f, l[0], l[0], l[2], l[3], l[1])
}

// The node whose subtree goes is in it; it is saved as the others are.
func TestSaversOfTheTop(t *testing.T) {
	f := fresh(t, 40)
	a := one(t, f, 256)
	b, x := one(t, f, a), one(t, f, 256)
	tie(t, f, a, b, x, 256)
	tie(t, f, b, a, x)
	savers(t, f, a, a, x, 256)
	savers(t, f, b, a, x)
	savers(t, f, b, b, a, x)
	tie(t, f, 256, a)
	savers(t, f, 256, 256)
}

// Who isn't in the subtree doesn't go with it.
func TestSaversOfWhoStays(t *testing.T) {
	f := fresh(t, 40)
	l := create(t, f, 256, "a", "b", "c")
	tie(t, f, l[1], l[2], 256, l[0])
	savers(t, f, l[1], l[0])
	savers(t, f, l[1], l[2])
	below := one(t, f, l[1])
	savers(t, f, l[1], below)
	savers(t, f, l[1], l[1], l[2], 256, l[0])
}

func TestSaversOfNothing(t *testing.T) {
	f := fresh(t, 40)
	a := one(t, f, 256)
	b, x := one(t, f, a), one(t, f, 256)
	tie(t, f, b, x)
	gone := one(t, f, a)
	is(t, "Remove", f.Remove(gone), api.OK)
	for _, h := range append(nobody, gone) {
		savers(t, f, h, a)
		savers(t, f, b, h)
		savers(t, f, h, h)
	}
	savers(t, f, b, a, x)
	for _, h := range append(nobody, 256) {
		if len(Savers(nil, h, h)) != 0 {
			t.Error("nil tells savers")
		}
	}
}

// P26.2

func TestSaveRefuses(t *testing.T) {
	f := fresh(t, 40)
	a := one(t, f, 256)
	b, x := one(t, f, a), one(t, f, 256)
	tie(t, f, b, x)
	for _, all := range []bool{true, false} {
		same(t, f, "a refused Save", func() {
			for _, h := range append(nobody, a+256, x+1) {
				if l, e := Save(f, h, all); len(l) != 0 || e != api.ErrHandle {
					t.Errorf("Save of %d: %v, error %d", h, l, e)
				}
			}
		})
		for _, h := range append(nobody, 256) {
			if l, e := Save(nil, h, all); len(l) != 0 || e != api.ErrNil {
				t.Errorf("Save of nil: %v, error %d", l, e)
			}
		}
	}
	children(t, f, a, b)
}

func TestSaveOfWhomNobodyHolds(t *testing.T) {
	f := fresh(t, 40)
	a := one(t, f, 256)
	b, c, x := one(t, f, a), one(t, f, a), one(t, f, 256)
	tie(t, f, b, c, a)
	tie(t, f, a, b)
	tie(t, f, 256, a)
	// To hold others is to be held by nobody.
	tie(t, f, x, b, a)
	same(t, f, "Save", func() {
		for _, h := range []api.Handle{256, a, b, c} {
			if h != b {
				moves(t, f, h, true)
			}
			moves(t, f, h, false)
		}
	})
}

// All is the ground's, so nobody is outside.
func TestSaveOfTheGround(t *testing.T) {
	f := fresh(t, 40)
	a, x := one(t, f, 256), one(t, f, 256)
	b := one(t, f, a)
	tie(t, f, b, x, 256)
	tie(t, f, a, x)
	tie(t, f, 256, x)
	same(t, f, "Save", func() {
		moves(t, f, 256, true)
		moves(t, f, 256, false)
	})
}

// Parents come first, and whoever is moved takes along what is below it, which isn't looked at any more.
func TestSaveParentsFirst(t *testing.T) {
	f := fresh(t, 60)
	l := create(t, f, 256, "a", "x", "y")
	a, x, y := l[0], l[1], l[2]
	b := one(t, f, a)
	c := one(t, f, b)
	d := bytes(t, f, c, 7)
	e := one(t, f, a)
	g := bytes(t, f, e, 5)
	tie(t, f, d, y)
	tie(t, f, g, y)
	tie(t, f, b, x)
	tie(t, f, c, y)
	moves(t, f, a, true, Kept{b, x}, Kept{g, y})
	children(t, f, a, e)
	children(t, f, x, b)
	children(t, f, b, c)
	children(t, f, c, d)
	children(t, f, y, g)
	children(t, f, e)
	sums(t, f, map[api.Handle]int{256: 12, a: 0, e: 0, x: 7, b: 7, c: 7, y: 5})
}

// Who is moved is the last child, whatever was there.
func TestSaveInOrder(t *testing.T) {
	f := fresh(t, 60)
	a, x := one(t, f, 256), one(t, f, 256)
	old := one(t, f, x)
	l := create(t, f, a, "b", "c", "d", "e")
	tie(t, f, l[3], x)
	tie(t, f, l[2], old)
	tie(t, f, l[0], x)
	moves(t, f, a, false, Kept{l[0], x}, Kept{l[2], old}, Kept{l[3], x})
	children(t, f, a, l[1])
	children(t, f, x, old, l[0], l[3])
	children(t, f, old, l[2])
}

// Not whole: the node itself stays, and may hold nobody.
func TestSaveOfWhatIsBelow(t *testing.T) {
	f := fresh(t, 60)
	a, x := one(t, f, 256), one(t, f, 256)
	b, c := one(t, f, a), one(t, f, a)
	tie(t, f, a, x)
	tie(t, f, b, a, c)
	same(t, f, "Save", func() { moves(t, f, a, false) })
	tie(t, f, c, a, x)
	// Behind c it is outside, too, so b may come to it.
	moves(t, f, a, false, Kept{c, x}, Kept{b, c})
	children(t, f, a)
	children(t, f, 256, a, x)
	children(t, f, x, c)
	children(t, f, c, b)
}

// Where the node itself is moved nothing more is looked at.
func TestSaveOfTheTop(t *testing.T) {
	f := fresh(t, 60)
	l := create(t, f, 256, "a", "x", "y")
	a, x, y := l[0], l[1], l[2]
	b := one(t, f, a)
	tie(t, f, b, y)
	tie(t, f, a, x, y)
	moves(t, f, a, true, Kept{a, x})
	children(t, f, 256, x, y)
	children(t, f, x, a)
	children(t, f, a, b)
	moves(t, f, a, true, Kept{a, x})
	moves(t, f, a, false, Kept{b, y})
}

// Its own parent may be the one that holds it: then it stays, as the last child.
func TestSaveByTheParent(t *testing.T) {
	f := fresh(t, 60)
	p := one(t, f, 256)
	a := one(t, f, p)
	b, last := one(t, f, a), one(t, f, p)
	tie(t, f, a, p)
	tie(t, f, b, last)
	moves(t, f, a, true, Kept{a, p})
	children(t, f, p, last, a)
	children(t, f, a, b)
	// A child whose parent holds it goes with that.
	tie(t, f, b, a)
	is(t, "Untie", refs.Untie(of(t, f, p), of(t, f, a)), api.OK)
	moves(t, f, a, true, Kept{b, last})
}

// The first one to which it can be moved: a limit may be in the way.
func TestSaveAndLimits(t *testing.T) {
	for _, c := range []struct{ x, y, z, wanted int }{{4, 0, 1, -1}, {4, 4, 5, 2}, {0, 5, 5, 1}, {4, 6, 4, 1}, {5, 9, 4, 0}, {-1, -1, -1, 0}, {4, -1, -1, 1}} {
		f := fresh(t, 60)
		l := create(t, f, 256, "a", "x", "y", "z")
		b := bytes(t, f, l[0], 5)
		tie(t, f, b, l[1:]...)
		for i, n := range []int{c.x, c.y, c.z} {
			limit(t, f, l[i+1], n)
		}
		if c.wanted < 0 {
			same(t, f, "Save", func() { moves(t, f, l[0], true) })
			continue
		}
		moves(t, f, l[0], true, Kept{b, l[1+c.wanted]})
		children(t, f, l[1+c.wanted], b)
		children(t, f, l[0])
	}
}

// Limits of those that are above both aren't in the way; those of the saver's own parents are.
func TestSaveAndLimitsAbove(t *testing.T) {
	f := fresh(t, 60)
	g := one(t, f, 256)
	a, p := one(t, f, g), one(t, f, g)
	x := one(t, f, p)
	b := bytes(t, f, a, 5)
	tie(t, f, b, x)
	limit(t, f, 256, 5)
	limit(t, f, g, 5)
	limit(t, f, p, 4)
	same(t, f, "Save", func() { moves(t, f, a, true) })
	limit(t, f, p, 5)
	moves(t, f, a, true, Kept{b, x})
	sums(t, f, map[api.Handle]int{256: 5, g: 5, p: 5, x: 5, a: 0})
}

// What can't be moved with its parent, as that is too great, may go alone.
func TestSaveOfAPart(t *testing.T) {
	f := fresh(t, 60)
	a, x := one(t, f, 256), one(t, f, 256)
	b := bytes(t, f, a, 6)
	c := bytes(t, f, b, 5)
	tie(t, f, b, x)
	tie(t, f, c, x)
	limit(t, f, x, 10)
	moves(t, f, a, true, Kept{c, x})
	children(t, f, b)
	children(t, f, x, c)
	sums(t, f, map[api.Handle]int{256: 11, a: 6, b: 6, x: 5})
}

// As long as somebody was moved it is asked once more: who was moved may hold others, and there may be more room.
func TestSaveOnceMore(t *testing.T) {
	f := fresh(t, 60)
	a, x := one(t, f, 256), one(t, f, 256)
	l := create(t, f, a, "b", "c", "d", "e")
	for i := range 3 {
		tie(t, f, l[i], l[i+1])
	}
	moves(t, f, a, true)
	tie(t, f, l[3], x)
	moves(t, f, a, true, Kept{l[3], x}, Kept{l[2], l[3]}, Kept{l[1], l[2]}, Kept{l[0], l[1]})
	children(t, f, a)
	children(t, f, x, l[3])
	children(t, f, l[1], l[0])
}

func TestSaveOnceMoreAsThereIsRoom(t *testing.T) {
	f := fresh(t, 60)
	a, x := one(t, f, 256), one(t, f, 256)
	b := bytes(t, f, a, 6)
	c := bytes(t, f, b, 5)
	y := one(t, f, 256)
	tie(t, f, b, x)
	tie(t, f, c, y)
	limit(t, f, x, 6)
	moves(t, f, a, true, Kept{c, y}, Kept{b, x})
	// The node itself is moved as late as that, too.
	d := bytes(t, f, 256, 3)
	e := bytes(t, f, d, 2)
	g := one(t, f, d)
	tie(t, f, d, a)
	tie(t, f, e, y)
	tie(t, f, g, e)
	limit(t, f, a, 3)
	moves(t, f, d, true, Kept{e, y}, Kept{g, e}, Kept{d, a})
	children(t, f, a, d)
	children(t, f, y, c, e)
	children(t, f, e, g)
}

// Somebody in the subtree saves nobody, be it that it holds all; and one who dies doesn't, either.
func TestSaveByNobody(t *testing.T) {
	f := fresh(t, 60)
	a, x := one(t, f, 256), one(t, f, 256)
	b := one(t, f, a)
	c := one(t, f, b)
	tie(t, f, b, a, c, x)
	tie(t, f, c, b, a, x)
	dies(t, f, x)
	same(t, f, "Save", func() {
		moves(t, f, a, true)
		moves(t, f, a, false)
	})
	// Who dies itself is saved even so.
	of(t, f, x).Set(node.State, 0)
	dies(t, f, a, b, c)
	moves(t, f, a, true, Kept{b, x})
	children(t, f, b, c)
}

// P26.3

// Whatever was moved is what it was, but for its parent.
func TestWhatIsMovedIsComplete(t *testing.T) {
	f := fresh(t, 100)
	a, x := one(t, f, 256), one(t, f, 256)
	b := bytes(t, f, a, 9000)
	c := one(t, f, b)
	d := of(t, f, c)
	at, e := d.Alloc(100, 16)
	is(t, "Alloc", e, api.OK)
	is(t, "Fill", d.Fill(at, 100, 'd'), api.OK)
	text := strings.Repeat("nine", 2250)
	is(t, "Write", block.Of(of(t, f, b)).Write(0, text), api.OK)
	limit(t, f, b, 9500)
	tie(t, f, c, a)
	tie(t, f, b, x)
	handles := f.Handles()
	moves(t, f, a, true, Kept{b, x})
	if s, e := block.Of(of(t, f, b)).Read(0, 9000); s != text || e != api.OK {
		t.Error("the content is another one")
	}
	if s, e := f.Bytes(at, 100); s != strings.Repeat("d", 100) || e != api.OK || of(t, f, c).Mark() != at {
		t.Error("the object is another one")
	}
	if most, some := f.Limit(of(t, f, b).Where()); most != 9500 || !some || !slices.Equal(f.Handles(), handles) {
		t.Error("the limit, or the handles, are others")
	}
	if l := refs.Holders(of(t, f, c)); len(l) != 1 || l[0].Who != uint64(a) {
		t.Errorf("the holders are %v", l)
	}
	// What is told is nobody's but the caller's.
	tie(t, f, x, a, 256)
	l := Savers(f, x, x)
	l[0] = 0
	savers(t, f, x, x, a, 256)
}

// All that a forest knows is in the arena: over a clone the same are moved.
func TestSaveOverAClone(t *testing.T) {
	f := fresh(t, 60)
	a, x := one(t, f, 256), one(t, f, 256)
	b := one(t, f, a)
	tie(t, f, b, x)
	twin, e := pool.Open(f.Clone())
	is(t, "Open", e, api.OK)
	moves(t, twin, a, true, Kept{b, x})
	children(t, f, a, b)
	children(t, twin, x, b)
}
