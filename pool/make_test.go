package pool

import (
	"math"
	"slices"
	"strings"
	"testing"

	"millpond/api"
	"millpond/block"
	"millpond/node"
	"millpond/refs"
)

// P25.2

func TestMakePools(t *testing.T) {
	f := fresh(t, 20)
	a := create(t, f, 256, Pool, "a", 0)
	b := create(t, f, 256, Pool, "", 0)
	c := create(t, f, a, Pool, "sixteen letters.", 0)
	d := create(t, f, 256, Pool, "a", 0)
	e := create(t, f, c, Pool, "\x00 \xff", 0)
	handles(t, f, 256, 257, 258, 259, 260, 261)
	children(t, f, 256, a, b, d)
	children(t, f, a, c)
	children(t, f, c, e)
	children(t, f, b)
	for h, name := range map[api.Handle]string{a: "a", b: "", c: "sixteen letters.", d: "a", e: "\x00 \xff"} {
		n := of(t, f, h)
		at := n.Where()
		if n.Name() != name || n.Get(node.Kind) != Pool || n.Get(node.State) != 0 || f.Own(at) != 0 || f.Sum(at) != 0 {
			t.Errorf("%d is %q, of the kind %d, charged with %d", h, n.Name(), n.Get(node.Kind), f.Own(at))
		}
		if _, some := f.Limit(at); some || len(n.Objects()) != 0 || len(n.Chunks()) != 1 || n.Chunks()[0].Order != 0 || n.Chunks()[0].At != at {
			t.Errorf("%d has %v in %v", h, n.Objects(), n.Chunks())
		}
		if len(refs.Targets(n)) != 0 || len(refs.Holders(n)) != 0 {
			t.Errorf("%d has links", h)
		}
	}
	owned(t, f)
}

func TestMakeBlocks(t *testing.T) {
	for _, n := range []int{0, 1, 15, 16, 17, inFront, inFront + 1, api.Page, 70000, most} {
		f := fresh(t, 2100)
		// A chunk that somebody has had ahead has other bytes than noughts.
		old := create(t, f, 256, Block, "old", 3000)
		is(t, "Write", block.Of(of(t, f, old)).Write(0, strings.Repeat("x", 3000)), api.OK)
		is(t, "Remove", f.Remove(old), api.OK)
		p := create(t, f, 256, Pool, "p", 0)
		b := create(t, f, p, Block, "b", n)
		c := create(t, f, b, Block, "c", 3)
		x := block.Of(of(t, f, b))
		if x.Name() != "b" || x.Get(node.Kind) != Block || x.Len() != n || len(x.Objects()) != 1 || x.Mark()%16 != 0 {
			t.Fatalf("of %d bytes: %q, of the kind %d, with %v", n, x.Name(), x.Get(node.Kind), x.Objects())
		}
		if s, e := x.Read(0, n); s != strings.Repeat("\x00", n) || e != api.OK {
			t.Fatalf("of %d bytes: they aren't noughts", n)
		}
		at := where(t, f, 256, p, b, c)
		for i, sum := range []int{n + 3, n + 3, n + 3, 3} {
			if f.Sum(at[i]) != sum || f.Own(at[i]) != []int{0, 0, n, 3}[i] {
				t.Fatalf("of %d bytes: the sums are others", n)
			}
		}
		children(t, f, b, c)
		owned(t, f)
	}
}

// The handle is the least one that is free, and no other one ever had it.
func TestMakeTakesTheLeastHandle(t *testing.T) {
	f := fresh(t, 20)
	all := pools(t, f, 256, 5)
	for _, i := range []int{3, 1} {
		is(t, "Remove", f.Remove(all[i]), api.OK)
	}
	for _, wanted := range []api.Handle{514, 516, 262} {
		if h := create(t, f, 256, Pool, "", 0); h != wanted {
			t.Fatalf("the handle is %d, wanted %d", h, wanted)
		}
	}
	is(t, "Remove", f.Remove(514), api.OK)
	if h := create(t, f, 256, Block, "", 4); h != 770 {
		t.Fatalf("the handle is %d, wanted 770", h)
	}
	handles(t, f, 256, 257, 770, 259, 516, 261, 262)
	for _, h := range []api.Handle{258, 260, 514} {
		gone(t, f, h)
	}
	children(t, f, 256, 257, 259, 261, 516, 262, 770)
}

// Of several errors the first one is told: each of these calls has all that come behind it, too.
func TestMakeRefuses(t *testing.T) {
	f := fresh(t, 300)
	p := create(t, f, 256, Pool, "p", 0)
	pools(t, f, 256, 254)
	is(t, "SetLimit", f.SetLimit(where(t, f, p)[0], 10), api.OK)
	of(t, f, p).Set(node.State, 1)
	long := "seventeen letters"
	// Whatever comes, there is no page left.
	f.Trim()
	f.Refuse(0)
	for _, h := range nobody {
		refused(t, f, h, 3, long, -1, api.ErrHandle)
		refused(t, f, h, Pool, "", 0, api.ErrHandle)
	}
	for _, n := range []int{math.MinInt, -1, 0, 1, most + 1, math.MaxInt} {
		for _, kind := range []uint64{0, 3, 4, 256, 1<<32 + 1, math.MaxUint64} {
			refused(t, f, p, kind, long, n, api.ErrArg)
			refused(t, f, 256, kind, "", n, api.ErrArg)
		}
		if n != 0 {
			refused(t, f, p, Pool, long, n, api.ErrArg)
			refused(t, f, 256, Pool, "", n, api.ErrArg)
		}
		if n != 0 && n != 1 {
			refused(t, f, p, Block, long, n, api.ErrArg)
			refused(t, f, 256, Block, "", n, api.ErrArg)
		}
	}
	for _, name := range []string{long, strings.Repeat("\x00", 17), strings.Repeat("n", 300)} {
		refused(t, f, p, Pool, name, 0, api.ErrLong)
		refused(t, f, p, Block, name, 11, api.ErrLong)
		refused(t, f, p, Block, name, most, api.ErrLong)
	}
	name := strings.Repeat("n", 16)
	refused(t, f, p, Pool, name, 0, api.ErrDying)
	refused(t, f, p, Block, name, 11, api.ErrDying)
	of(t, f, p).Set(node.State, 0)
	refused(t, f, p, Block, name, 11, api.ErrLimit)
	refused(t, f, p, Block, name, 10, api.ErrFull)
	refused(t, f, p, Block, name, 0, api.ErrFull)
	refused(t, f, p, Pool, name, 0, api.ErrFull)
	refused(t, f, 256, Block, name, most, api.ErrFull)
	is(t, "Remove", f.Remove(511), api.OK)
	f.Trim()
	f.Shrink()
	f.Refuse(0)
	if h, e := f.Make(p, Block, name, 10); h != 0 || e != api.ErrNoMemory {
		t.Fatalf("Make: %d, error %d", h, e)
	}
	if h, e := f.Make(p, Block, name, 10); h != 767 || e != api.OK {
		t.Fatalf("Make: %d, error %d", h, e)
	}
}

// Only the parent's own State counts, whatever it is.
func TestMakeWhereTheParentDies(t *testing.T) {
	f := fresh(t, 20)
	a := create(t, f, 256, Pool, "a", 0)
	b := create(t, f, a, Block, "b", 1)
	for _, state := range []uint64{1, 2, 1 << 40, math.MaxUint64} {
		of(t, f, b).Set(node.State, state)
		refused(t, f, b, Pool, "", 0, api.ErrDying)
		refused(t, f, b, Block, "", 5, api.ErrDying)
	}
	of(t, f, a).Set(node.State, 1)
	refused(t, f, a, Pool, "", 0, api.ErrDying)
	of(t, f, b).Set(node.State, 0)
	create(t, f, b, Pool, "", 0)
	of(t, f, 256).Set(node.State, 1)
	refused(t, f, 256, Pool, "", 0, api.ErrDying)
	create(t, f, b, Pool, "", 0)
}

func TestMakeAndLimits(t *testing.T) {
	f := fresh(t, 40)
	a := create(t, f, 256, Pool, "a", 0)
	b := create(t, f, a, Pool, "b", 0)
	at := where(t, f, 256, a, b)
	for i, n := range []int{30, 20, 10} {
		is(t, "SetLimit", f.SetLimit(at[i], n), api.OK)
	}
	refused(t, f, b, Block, "", 11, api.ErrLimit)
	create(t, f, b, Block, "", 10)
	refused(t, f, b, Block, "", 1, api.ErrLimit)
	// Of no bytes there is always room.
	create(t, f, b, Block, "", 0)
	create(t, f, b, Pool, "", 0)
	refused(t, f, a, Block, "", 11, api.ErrLimit)
	c := create(t, f, a, Block, "", 9)
	refused(t, f, c, Block, "", 2, api.ErrLimit)
	refused(t, f, 256, Block, "", 12, api.ErrLimit)
	refused(t, f, 256, Block, "", most, api.ErrLimit)
	create(t, f, 256, Block, "", 11)
	refused(t, f, c, Block, "", 1, api.ErrLimit)
	if f.Sum(at[0]) != 30 || f.Sum(at[1]) != 19 || f.Sum(at[2]) != 10 {
		t.Errorf("the sums are %d, %d, %d", f.Sum(at[0]), f.Sum(at[1]), f.Sum(at[2]))
	}
	is(t, "SetLimit", f.SetLimit(at[0], -1), api.OK)
	create(t, f, c, Block, "", 1)
}

func TestMakeIsFull(t *testing.T) {
	f := fresh(t, 300)
	all := pools(t, f, 256, 255)
	if all[254] != 511 || len(f.Handles()) != api.MaxNodes {
		t.Fatalf("the last one is %d", all[254])
	}
	refused(t, f, all[7], Pool, "", 0, api.ErrFull)
	refused(t, f, 256, Block, "", 5, api.ErrFull)
	is(t, "Remove", f.Remove(all[99]), api.OK)
	if h := create(t, f, all[7], Block, "", 5); h != all[99]+256 {
		t.Fatalf("the handle is %d", h)
	}
	refused(t, f, 256, Pool, "", 0, api.ErrFull)
}

// Where there is no chunk for the node.
func TestMakeWithoutMemory(t *testing.T) {
	f := fresh(t, 3)
	all := pools(t, f, 256, 3)
	for _, kind := range []uint64{Pool, Block} {
		refused(t, f, all[0], kind, "", 0, api.ErrNoMemory)
	}
	handles(t, f, append([]api.Handle{256}, all...)...)
	is(t, "Remove", f.Remove(all[1]), api.OK)
	if h := create(t, f, all[2], Block, "", inFront); h != 514 {
		t.Fatalf("the handle is %d", h)
	}
	children(t, f, all[2], 514)
	refused(t, f, 256, Pool, "", 0, api.ErrNoMemory)
}

// Where there is one for the node, but none for its content: that one is given back.
func TestMakeWithoutMemoryForTheContent(t *testing.T) {
	f := fresh(t, 4)
	a := create(t, f, 256, Pool, "a", 0)
	b := create(t, f, 256, Block, "b", 5)
	none := func(n int) {
		t.Helper()
		if h, e := f.Make(a, Block, "c", n); h != 0 || e != api.ErrNoMemory {
			t.Fatalf("Make of %d: %d, error %d", n, h, e)
		}
		handles(t, f, 256, a, b)
		children(t, f, 256, a, b)
		children(t, f, a)
		if at := where(t, f, 256, a); f.Sum(at[0]) != 5 || f.Sum(at[1]) != 0 {
			t.Fatalf("the sums are %d and %d", f.Sum(at[0]), f.Sum(at[1]))
		}
		owned(t, f)
	}
	for _, n := range []int{2 * api.Page, 70000, most} {
		none(n)
		if f.Cached() != 1 {
			t.Fatalf("cached are %d pages", f.Cached())
		}
	}
	f.Keep(0)
	none(2 * api.Page)
	if f.Cached() != 0 {
		t.Fatalf("cached are %d pages", f.Cached())
	}
	if c := create(t, f, a, Block, "c", api.Page-48); c != 259 || f.Sum(where(t, f, a)[0]) != api.Page-48 {
		t.Fatalf("the handle is %d", c)
	}
	f = fresh(t, 100)
	f.Refuse(1)
	if h, e := f.Make(256, Block, "", 70000); h != 0 || e != api.ErrNoMemory {
		t.Fatalf("Make: %d, error %d", h, e)
	}
	ground(t, f)
	owned(t, f)
	f.Trim()
	asNew(t, f)
	if h := create(t, f, 256, Block, "", 70000); h != 257 {
		t.Fatalf("the handle is %d", h)
	}
}

// P25.3

func TestRemove(t *testing.T) {
	f := fresh(t, 100)
	a := create(t, f, 256, Pool, "a", 0)
	all := []api.Handle{create(t, f, a, Block, "b", 5), create(t, f, a, Block, "c", 9000), create(t, f, a, Pool, "d", 0)}
	at := where(t, f, 256, a, all[0], all[1], all[2])
	d := of(t, f, all[2])
	for range 5 {
		_, e := d.Alloc(3000, 8)
		is(t, "Alloc", e, api.OK)
	}
	is(t, "Begin", d.Begin(8), api.OK)
	is(t, "Charge", f.Charge(d.Where(), 100), api.OK)
	pages := len(d.Chunks())
	is(t, "Remove", f.Remove(all[1]), api.OK)
	children(t, f, a, all[0], all[2])
	if f.Sum(at[0]) != 105 || f.Sum(at[1]) != 105 || f.Sum(at[3]) != 0 || f.Cached() != 1+4 {
		t.Fatalf("the sums are %d and %d, cached are %d", f.Sum(at[0]), f.Sum(at[1]), f.Cached())
	}
	gone(t, f, all[1])
	owned(t, f)
	// Somebody who dies goes, too; and one whose last object grows.
	d.Set(node.State, 1)
	is(t, "Remove", f.Remove(all[2]), api.OK)
	children(t, f, a, all[0])
	if f.Sum(at[0]) != 5 || f.Cached() != 5+pages {
		t.Fatalf("the sum is %d, cached are %d", f.Sum(at[0]), f.Cached())
	}
	is(t, "Remove", f.Remove(all[0]), api.OK)
	children(t, f, a)
	is(t, "Remove", f.Remove(a), api.OK)
	ground(t, f)
	for i, h := range append(all, a) {
		gone(t, f, h)
		is(t, "Remove", f.Remove(h), api.ErrHandle)
		if i < 3 {
			if _, e := node.At(f.Recycler, at[i+2]); e != api.ErrKind {
				t.Fatalf("the record of %d stands yet", h)
			}
		}
	}
	f.Trim()
	asNew(t, f)
}

// Whoever is removed leaves no link behind, be it a holder's or a target's.
func TestRemoveUnties(t *testing.T) {
	f := fresh(t, 100)
	l := append(pools(t, f, 256, 3), create(t, f, 256, Block, "", 3))
	for i, x := range [][2]int{{0, 1}, {2, 1}, {1, 3}, {1, 0}, {0, 2}, {3, 1}, {3, 0}, {2, 3}} {
		tie(t, f, l[x[0]], l[x[1]], uint64(i+1))
	}
	tie(t, f, 256, l[1], 20)
	tie(t, f, l[1], 256, 21)
	links := func(h api.Handle, targets, holders []refs.Link) {
		t.Helper()
		n := of(t, f, h)
		if !slices.Equal(refs.Targets(n), targets) || !slices.Equal(refs.Holders(n), holders) {
			t.Fatalf("%d refers to %v, and is held by %v", h, refs.Targets(n), refs.Holders(n))
		}
	}
	a, b, c, d := uint64(l[0]), uint64(l[1]), uint64(l[2]), uint64(l[3])
	links(l[1], []refs.Link{{Who: d, Serial: 3}, {Who: a, Serial: 4}, {Who: 256, Serial: 21}}, []refs.Link{{Who: a, Serial: 1}, {Who: c, Serial: 2}, {Who: d, Serial: 6}, {Who: 256, Serial: 20}})
	is(t, "Remove", f.Remove(l[1]), api.OK)
	links(l[0], []refs.Link{{Who: c, Serial: 5}}, []refs.Link{{Who: d, Serial: 7}})
	links(l[2], []refs.Link{{Who: d, Serial: 8}}, []refs.Link{{Who: a, Serial: 5}})
	links(l[3], []refs.Link{{Who: a, Serial: 7}}, []refs.Link{{Who: c, Serial: 8}})
	links(256, nil, nil)
	// Who has its slot next has none of its links.
	next := create(t, f, 256, Pool, "", 0)
	if next != api.Handle(b+256) {
		t.Fatalf("the next handle is %d", next)
	}
	links(next, nil, nil)
	is(t, "Remove", f.Remove(l[3]), api.OK)
	links(l[0], []refs.Link{{Who: c, Serial: 5}}, nil)
	is(t, "Remove", f.Remove(l[0]), api.OK)
	links(l[2], nil, nil)
}

// As many as there may be go, too.
func TestRemoveUntiesAll(t *testing.T) {
	f := fresh(t, 100)
	l := pools(t, f, 256, 17)
	for i := range 8 {
		tie(t, f, l[16], l[i], uint64(i+1))
		tie(t, f, l[8+i], l[16], uint64(i+1))
	}
	is(t, "Remove", f.Remove(l[16]), api.OK)
	for _, h := range l[:16] {
		if n := of(t, f, h); len(refs.Targets(n)) != 0 || len(refs.Holders(n)) != 0 {
			t.Fatalf("%d has links", h)
		}
	}
}

func TestRemoveRefuses(t *testing.T) {
	f := fresh(t, 20)
	is(t, "Remove", f.Remove(256), api.ErrOrder)
	a := create(t, f, 256, Pool, "a", 0)
	b := create(t, f, a, Block, "b", 3)
	c := create(t, f, b, Pool, "c", 0)
	tie(t, f, a, c, 1)
	same(t, f.Arena, "a refused Remove", func() {
		for _, h := range append(nobody, c+1, a+256) {
			is(t, "Remove", f.Remove(h), api.ErrHandle)
		}
		for _, h := range []api.Handle{256, a, b} {
			is(t, "Remove", f.Remove(h), api.ErrOrder)
		}
	})
	for _, h := range []api.Handle{c, b, a} {
		is(t, "Remove", f.Remove(h), api.OK)
		same(t, f.Arena, "a refused Remove", func() {
			is(t, "Remove", f.Remove(h), api.ErrHandle)
			is(t, "Remove", f.Remove(256), api.ErrOrder)
		})
	}
}
