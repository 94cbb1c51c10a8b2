package node

import (
	"math"
	"slices"
	"strings"
	"testing"

	"millpond/api"
	"millpond/arena"
	"millpond/buddy"
	"millpond/census"
	"millpond/chunk"
	"millpond/object"
	"millpond/recycler"
	"millpond/region"
	"millpond/view"
)

// far: numbers that are no place, and no field nor part, of any of these tests.
var far = []int{math.MinInt, math.MinInt + 4096, -4096, -32, -2, -1, api.Most, math.MaxInt - 4095, math.MaxInt - 31, math.MaxInt}

// sizes: of the parts, as the chapter has them.
var sizes = []int{192, 96, 128, 128, 128}

// values: what a field may be.
var values = []uint64{0, 1, 255, 256, 1 << 31, 1<<32 - 1, 1 << 32, 1 << 56, 1<<63 - 1, 1 << 63, math.MaxUint64}

// is: a test ends, if an error is another one than was wanted.
func is(t *testing.T, what string, got, wanted api.Errno) {
	t.Helper()
	if got != wanted {
		t.Fatalf("%s: error %d, wanted %d", what, got, wanted)
	}
}

// of: a view that is there.
func of(t *testing.T, a *arena.Arena, at, size int) view.View {
	t.Helper()
	v, e := view.Of(a, at, size)
	is(t, "view.Of", e, api.OK)
	return v
}

// fresh: a new recycler, of an arena that has so many pages beside the buddy's first one and another one, whose first 64 bytes are the recycler's.
func fresh(t *testing.T, pages int) *recycler.Recycler {
	t.Helper()
	b, e := buddy.New(arena.New(pages + 2))
	is(t, "buddy.New", e, api.OK)
	at, e := b.Alloc(0)
	is(t, "Alloc", e, api.OK)
	r, e := recycler.New(b, of(t, b.Arena, at, 64))
	is(t, "recycler.New", e, api.OK)
	return r
}

// anew: the recycler over an arena where one stands already.
func anew(t *testing.T, a *arena.Arena) *recycler.Recycler {
	t.Helper()
	b, e := buddy.Open(a)
	is(t, "buddy.Open", e, api.OK)
	r, e := recycler.Open(b, of(t, a, b.Base()*api.Page, 64))
	is(t, "recycler.Open", e, api.OK)
	return r
}

// whole: all bytes that are committed, page by page.
func whole(t *testing.T, a *arena.Arena) string {
	t.Helper()
	var all strings.Builder
	for first, n := range a.Pages().Rows() {
		s, e := a.Bytes(first*api.Page, n*api.Page)
		is(t, "Bytes", e, api.OK)
		all.WriteString(s)
	}
	return all.String()
}

// same: a call changes nothing.
func same(t *testing.T, a *arena.Arena, what string, call func()) {
	t.Helper()
	before := whole(t, a)
	call()
	if whole(t, a) != before {
		t.Fatalf("%s changes something", what)
	}
}

// junk: chunks of these orders are cached, the first one the newest of its bin, all full of other bytes.
func junk(t *testing.T, r *recycler.Recycler, orders ...int) {
	t.Helper()
	var all []chunk.Chunk
	for _, order := range orders {
		c := take(t, r, order, 99)
		is(t, "Fill", r.Fill(c.At+api.Head, api.Page<<c.Order-api.Head, 0xff), api.OK)
		all = append(all, c)
	}
	for _, c := range slices.Backward(all) {
		is(t, "Give", r.Give(c.At), api.OK)
	}
}

// take: a chunk of an owner.
func take(t *testing.T, r *recycler.Recycler, order int, owner uint64) chunk.Chunk {
	t.Helper()
	c, e := r.Take(order, owner)
	is(t, "Take", e, api.OK)
	return c
}

// create: a node, all noughts but its handle and its name, in the chunk that Take tells of an arena that is alike.
func create(t *testing.T, r *recycler.Recycler, order int, h api.Handle, name string) Node {
	t.Helper()
	c, f := anew(t, r.Clone()).Take(order, uint64(h))
	n, e := Make(r, order, h, name)
	is(t, "Make", e, f)
	is(t, "Make", e, api.OK)
	if all := n.Chunks(); n.Where() != c.At || !slices.Equal(all, []chunk.Chunk{c}) || n.Owner() != uint64(h) || n.Recycler != r {
		t.Fatalf("at %d, owner %d: its chunks are %v, wanted %v", n.Where(), n.Owner(), all, c)
	}
	tells(t, n, name, uint64(h))
	for part := range sizes {
		holds(t, n, part, 0)
	}
	if len(n.Objects()) != 0 || n.Used() != 0 || n.Held() != 0 || n.Mark() != 0 || n.Room() != 0 {
		t.Fatalf("it has objects: %v", n.Objects())
	}
	found(t, r, n)
	return n
}

// tells: has a node that name, and these numbers, from field 0 on (the others are 0)?
func tells(t *testing.T, n Node, name string, nums ...uint64) {
	t.Helper()
	for f := range 13 {
		x := uint64(0)
		if f < len(nums) {
			x = nums[f]
		}
		if n.Get(f) != x {
			t.Fatalf("Get(%d): %d, wanted %d", f, n.Get(f), x)
		}
	}
	if n.Name() != name {
		t.Fatalf("Name: %q, wanted %q", n.Name(), name)
	}
}

// holds: is each byte of a part that one?
func holds(t *testing.T, n Node, part int, b byte) {
	t.Helper()
	v := n.Part(part)
	if v.Size() != sizes[part] || v.Arena != n.Arena || v.At() < n.Where()+32 || v.At()+v.Size() > n.Where()+1024 {
		t.Fatalf("part %d of the node at %d has %d bytes at %d", part, n.Where(), v.Size(), v.At())
	}
	if s, e := v.Bytes(0, v.Size()); e != api.OK || s != strings.Repeat(string([]byte{b}), sizes[part]) {
		t.Fatalf("part %d is %q, error %d, wanted %d", part, s, e, b)
	}
}

// found: is the node at its address the same?
func found(t *testing.T, r *recycler.Recycler, n Node) {
	t.Helper()
	same(t, r.Arena, "At", func() {
		t.Helper()
		m, e := At(r, n.Where())
		is(t, "At", e, api.OK)
		alike(t, m, n)
	})
}

// alike: do two nodes tell the same?
func alike(t *testing.T, m, n Node) {
	t.Helper()
	if m.Where() != n.Where() || m.Name() != n.Name() || m.Owner() != n.Owner() {
		t.Fatalf("it is %q at %d, wanted %q at %d", m.Name(), m.Where(), n.Name(), n.Where())
	}
	for f := range 13 {
		if m.Get(f) != n.Get(f) {
			t.Fatalf("field %d is %d, wanted %d", f, m.Get(f), n.Get(f))
		}
	}
	for part := range sizes {
		v, w := m.Part(part), n.Part(part)
		x, e := v.Bytes(0, v.Size())
		y, f := w.Bytes(0, w.Size())
		if v.At() != w.At() || x != y || e != f {
			t.Fatalf("part %d is %q at %d, wanted %q at %d", part, x, v.At(), y, w.At())
		}
	}
	if !slices.Equal(m.Chunks(), n.Chunks()) || !slices.Equal(m.Objects(), n.Objects()) || m.Used() != n.Used() || m.Held() != n.Held() {
		t.Fatalf("it has %v in %v, wanted %v in %v", m.Objects(), m.Chunks(), n.Objects(), n.Chunks())
	}
}

// missing: no node is there; that changes nothing.
func missing(t *testing.T, r *recycler.Recycler, at int, wanted api.Errno) {
	t.Helper()
	same(t, r.Arena, "At", func() {
		t.Helper()
		if n, e := At(r, at); n != (Node{}) || e != wanted {
			t.Fatalf("At(%d): %q, error %d, wanted %d", at, n.Name(), e, wanted)
		}
	})
}

func TestExample(t *testing.T) {
	r := fresh(t, 20)
	n, e := Make(r, 0, 256, "a")
	is(t, "Make", e, api.OK)
	if n.Get(Handle) != 256 || n.Name() != "a" {
		t.Errorf("it is %q, %d", n.Name(), n.Get(Handle))
	}
	if at, e := n.Alloc(1, 1); at != n.Where()+1040 || e != api.OK {
		t.Errorf("Alloc(1, 1): %d, error %d, of the node at %d", at, e, n.Where())
	}
}

func TestTheNumbersOfFieldsAndParts(t *testing.T) {
	if !slices.Equal([]int{Handle, Parent, First, Last, Next, Prev, Limit, Own, Sum, Kind, State, Level, Block}, []int{0, 1, 2, 3, 4, 5, 6, 7, 8, 9, 10, 11, 12}) {
		t.Error("the fields have other numbers")
	}
	if !slices.Equal([]int{Cleans, Pres, Keys, Refs, Backs}, []int{0, 1, 2, 3, 4}) {
		t.Error("the parts have other numbers")
	}
}

// P18.1

func TestMake(t *testing.T) {
	for _, cached := range [][]int{nil, {0}, {3}, {4, 1, 0, 0}} {
		for order := range 5 {
			r := fresh(t, 200)
			r.Keep(100)
			junk(t, r, cached...)
			for i, name := range []string{"", "a", "mill", "\x00\x00", "\xff\x00\xff", "1234567890123456", strings.Repeat("\xff", 16), strings.Repeat("\x00", 16)} {
				n := create(t, r, order, api.Handle(256+i), name)
				if c, _ := n.Newest(); c.Order < order || len(cached) == 0 && c.Order != order {
					t.Errorf("order %d: in %v", order, c)
				}
			}
		}
	}
}

func TestMakeOfAllHandles(t *testing.T) {
	r := fresh(t, 40)
	for _, x := range append(values[1:], 256, 256) { // of one handle twice: of that nothing is asked
		n := create(t, r, 0, api.Handle(x), "n")
		if c, e := chunk.Read(r.Arena, n.Where()); c.Owner != x || e != api.OK {
			t.Errorf("of the handle %d: %v", x, c)
		}
	}
}

func TestMakeRefuses(t *testing.T) {
	r := fresh(t, 6)
	create(t, r, 1, 256, "here")
	junk(t, r, 0)
	long := []string{"12345678901234567", strings.Repeat("\x00", 17), strings.Repeat("x", 5000)}
	names := append([]string{"", "a", "1234567890123456"}, long...)
	orders := append([]int{0, 4, 10, 11}, far...)
	refused := func(r *recycler.Recycler, order int, h api.Handle, name string, wanted api.Errno) {
		t.Helper()
		if n, e := Make(r, order, h, name); n != (Node{}) || e != wanted {
			t.Fatalf("Make(%d, %d, %.20q): at %d, error %d, wanted %d", order, h, name, n.Where(), e, wanted)
		}
	}
	same(t, r.Arena, "a refused Make", func() {
		for _, order := range orders {
			for _, name := range names {
				refused(nil, order, 0, name, api.ErrNil)
				refused(nil, order, 1, name, api.ErrNil)
				refused(r, order, 0, name, api.ErrArg)
			}
			for _, h := range []api.Handle{1, 256, math.MaxUint64} {
				for _, name := range long {
					refused(r, order, h, name, api.ErrLong)
				}
				if order < 0 || order > 10 {
					for _, name := range names[:3] {
						refused(r, order, h, name, api.ErrArg)
					}
				}
			}
		}
	})
}

// Where there is no memory all is as it was, but for what is cached; and what is cached does, if it is great enough.
func TestMakeWhereThereIsNoMemory(t *testing.T) {
	r := fresh(t, 4)
	a, b := create(t, r, 0, 256, "a"), create(t, r, 0, 257, "b")
	junk(t, r, 0)
	before := r.Runs()
	for order := 2; order <= 10; order++ {
		n, e := Make(r, order, 258, "c")
		if n != (Node{}) || e != api.ErrNoMemory {
			t.Fatalf("Make: at %d, error %d", n.Where(), e)
		}
	}
	if r.Cached() != 0 || len(r.Runs()) > len(before)+1 {
		t.Errorf("the runs are %v, they were %v", r.Runs(), before)
	}
	found(t, r, a)
	found(t, r, b)
	create(t, r, 0, 258, "c")
	junk(t, r, 0)
	create(t, r, 0, 259, "d")
	if _, e := Make(r, 0, 260, "e"); e != api.ErrNoMemory {
		t.Errorf("Make: error %d", e)
	}
	b.Clear()
	create(t, r, 0, 260, "e")
	found(t, r, a)
}

func TestMakeWhereACommitIsRefused(t *testing.T) {
	r := fresh(t, 20)
	n := create(t, r, 0, 256, "a")
	r.Refuse(0)
	same(t, r.Arena, "a refused Make", func() {
		if m, e := Make(r, 0, 257, "b"); m != (Node{}) || e != api.ErrNoMemory {
			t.Errorf("Make: at %d, error %d", m.Where(), e)
		}
	})
	create(t, r, 0, 257, "b")
	found(t, r, n)
}

func TestAtWhereNothingIs(t *testing.T) {
	r := fresh(t, 6)
	n := create(t, r, 1, 256, "a")
	end := n.Where() + 2*api.Page
	for at := 0; at <= end-32; at += 16 {
		if at != n.Where() {
			missing(t, r, at, api.ErrKind)
		}
	}
	missing(t, r, n.Where()+1, api.ErrKind)
	missing(t, r, n.Where()-1, api.ErrKind)
	for _, at := range append(far, end-31, end, end+api.Page, 8*api.Page-32, 8*api.Page) {
		missing(t, r, at, api.ErrRange)
	}
	for _, at := range append(far, 0, 4096, n.Where()) {
		if m, e := At(nil, at); m != (Node{}) || e != api.ErrNil {
			t.Errorf("At(nil, %d): error %d", at, e)
		}
	}
	found(t, r, n)
}

// A chunk with a header, and whatever bytes, is no node.
func TestAtOfOtherChunks(t *testing.T) {
	r := fresh(t, 60)
	n := create(t, r, 0, 256, "a")
	for _, owner := range []uint64{256, 257, 1} {
		for _, b := range []byte{0, 1, 0xff, 'x'} {
			c := take(t, r, 0, owner)
			is(t, "Fill", r.Fill(c.At+32, 4064, b), api.OK)
			missing(t, r, c.At, api.ErrKind)
		}
		// A copy of the node's record is none of another chunk's.
		c := take(t, r, 0, owner)
		is(t, "Copy", r.Copy(c.At+32, n.Where()+32, 992), api.OK)
		missing(t, r, c.At, api.ErrKind)
		// And regions in their own chunks, wherever their views are.
		for at := 32; at <= 992; at += 8 {
			x := take(t, r, 0, owner)
			is(t, "Fill", r.Fill(x.At+32, 4064, 0), api.OK)
			g, e := region.Open(r, of(t, r.Arena, x.At+at, 32), owner, 1024)
			is(t, "region.Open", e, api.OK)
			is(t, "Join", g.Join(x.At), api.OK)
			missing(t, r, x.At, api.ErrKind)
			g.Clear()
			missing(t, r, x.At, api.ErrKind)
		}
	}
	// A chunk with its own address everywhere, which is its owner, too.
	x := take(t, r, 1, 1)
	is(t, "Give", r.Give(x.At), api.OK)
	x = take(t, r, 1, uint64(x.At))
	for at := 32; at < 4096; at += 8 {
		is(t, "Store", r.Store(x.At+at, 8, x.Owner), api.OK)
	}
	missing(t, r, x.At, api.ErrKind)
	found(t, r, n)
}

// Of a node with many chunks its oldest one alone is known.
func TestAtOfLaterChunks(t *testing.T) {
	r := fresh(t, 60)
	n := create(t, r, 0, 256, "a")
	// Later chunks that had been nodes' ahead.
	var old []Node
	for range 5 {
		old = append(old, create(t, r, 0, 256, "old"))
	}
	for _, m := range old {
		m.Clear()
	}
	for _, align := range []int{64, 1, 8, 32, 16} {
		at, e := n.Alloc(4000, align)
		is(t, "Alloc", e, api.OK)
		is(t, "Fill", n.Fill(at, 4000, 'x'), api.OK)
	}
	all := n.Chunks()
	if len(all) != 6 {
		t.Fatalf("its chunks are %v", all)
	}
	for _, c := range all[:5] {
		missing(t, r, c.At, api.ErrKind)
	}
	found(t, r, n)
	tells(t, n, "a", 256)
}

// Once it was cleared none stands there, whoever has the chunk then.
func TestAtOfWhatWasCleared(t *testing.T) {
	for _, keeps := range []int{0, 16} {
		for order := range 3 {
			r := fresh(t, 60)
			r.Keep(keeps)
			n := create(t, r, order, 256, "a")
			at := n.Where()
			m, e := At(r, at)
			is(t, "At", e, api.OK)
			if m.Clear() != 1 {
				t.Fatal("it isn't cleared")
			}
			missing(t, r, at, api.ErrKind)
			for _, owner := range []uint64{257, 256, 1, 256} {
				c := take(t, r, order, owner)
				if c.At != at {
					t.Fatalf("the chunk at %d isn't that at %d", c.At, at)
				}
				missing(t, r, at, api.ErrKind)
				g, e := region.Open(r, of(t, r.Arena, r.Base()*api.Page+64, 32), owner, 1024)
				is(t, "region.Open", e, api.OK)
				is(t, "Join", g.Join(at), api.OK)
				_, e = g.Alloc(100, 1)
				is(t, "Alloc", e, api.OK)
				missing(t, r, at, api.ErrKind)
				g.Empty()
				g.Clear()
				missing(t, r, at, api.ErrKind)
			}
			create(t, r, order, 256, "b")
		}
	}
}

// Nor does a region of another owner make one of the bytes that are left of it, wherever its view lies.
func TestAtOfWhatIsLeft(t *testing.T) {
	r := fresh(t, 60)
	for at := 32; at <= 992; at += 8 {
		n := create(t, r, 0, 256, "a")
		n.Clear()
		c := take(t, r, 0, 257)
		if c.At != n.Where() {
			t.Fatalf("the chunk at %d isn't that at %d", c.At, n.Where())
		}
		v := of(t, r.Arena, c.At+at, 32)
		is(t, "Fill", v.Fill(0, 32, 0), api.OK)
		g, e := region.Open(r, v, 257, 1024)
		is(t, "region.Open", e, api.OK)
		is(t, "Join", g.Join(c.At), api.OK)
		missing(t, r, c.At, api.ErrKind)
		g.Clear()
	}
}

// A record whose Handle is set to another number is that node's even so; its owner stays.
func TestAtWhereTheHandleIsAnotherNumber(t *testing.T) {
	r := fresh(t, 20)
	n := create(t, r, 0, 256, "a")
	for _, x := range values {
		n.Set(Handle, x)
		found(t, r, n)
		tells(t, n, "a", x)
		if n.Owner() != 256 {
			t.Errorf("its owner is %d", n.Owner())
		}
	}
}

func TestAtOfAClone(t *testing.T) {
	r := fresh(t, 20)
	n := create(t, r, 0, 256, "a")
	n.Set(Sum, 7)
	is(t, "Put", n.Part(Keys).Put(5, "key"), api.OK)
	_, e := n.Alloc(5000, 8)
	is(t, "Alloc", e, api.OK)
	twin := anew(t, r.Clone())
	m, e := At(twin, n.Where())
	is(t, "At", e, api.OK)
	alike(t, m, n)
	m.Set(Sum, 8)
	m.Empty()
	if n.Get(Sum) != 7 || len(n.Objects()) != 1 {
		t.Error("the other one has changed")
	}
	m.Clear()
	missing(t, twin, n.Where(), api.ErrKind)
	found(t, r, n)
	again := anew(t, r.Arena)
	found(t, again, n)
}

func TestWhatIsAskedOfOneAllTell(t *testing.T) {
	r := fresh(t, 20)
	n := create(t, r, 0, 256, "a")
	m, e := At(r, n.Where())
	is(t, "At", e, api.OK)
	m.Set(Parent, 4096)
	n.Set(First, 8192)
	is(t, "Fill", m.Part(Refs).Fill(0, 128, 'r'), api.OK)
	is(t, "Begin", m.Begin(8), api.OK)
	is(t, "Grow", n.Grow("abc"), api.OK)
	alike(t, m, n)
	tells(t, n, "a", 256, 4096, 8192)
	holds(t, n, Refs, 'r')
	if s, e := m.Text(); s != "abc" || e != api.OK {
		t.Errorf("Text: %q, error %d", s, e)
	}
}

// P18.2

func TestGetAndSet(t *testing.T) {
	r := fresh(t, 20)
	n := create(t, r, 0, 256, "name")
	nums := make([]uint64, 13)
	nums[Handle] = 256
	for _, x := range values {
		for f := range nums {
			n.Set(f, x)
			nums[f] = x
			tells(t, n, "name", nums...)
		}
		for f := range nums {
			nums[f] = x ^ uint64(f*0x0101010101010101)
			n.Set(f, nums[f])
			tells(t, n, "name", nums...)
		}
	}
	same(t, r.Arena, "Set of another field", func() {
		for _, f := range append(far, 13, 14, 15, 16, 17, 31, 32, 33, 100) {
			for _, x := range values {
				n.Set(f, x)
			}
			if n.Get(f) != 0 {
				t.Errorf("Get(%d): %d", f, n.Get(f))
			}
		}
	})
	found(t, r, n)
}

func TestPart(t *testing.T) {
	r := fresh(t, 20)
	n := create(t, r, 0, 256, "name")
	for k := range 3 {
		for part := range sizes {
			v := n.Part(part)
			is(t, "Fill", v.Fill(0, sizes[part], byte(10*k+part+1)), api.OK)
			is(t, "Fill", v.Fill(0, sizes[part]+1, 0), api.ErrRange)
			is(t, "Store", v.Store(sizes[part]-7, 8, 0), api.ErrRange)
			for other := range sizes {
				if other <= part {
					holds(t, n, other, byte(10*k+other+1))
				} else if k > 0 {
					holds(t, n, other, byte(10*k-10+other+1))
				} else {
					holds(t, n, other, 0)
				}
			}
		}
	}
	tells(t, n, "name", 256)
	same(t, r.Arena, "Part", func() {
		for _, part := range append(far, 5, 6, 13, 100) {
			if v := n.Part(part); v != (view.View{}) {
				t.Errorf("Part(%d): %d bytes at %d", part, v.Size(), v.At())
			}
		}
	})
	found(t, r, n)
}

func TestTheZeroNode(t *testing.T) {
	var n Node
	for _, f := range append(far, 0, 1, 5, 12, 13, 14, 15) {
		n.Set(f, 1)
		if n.Get(f) != 0 || n.Part(f) != (view.View{}) {
			t.Errorf("Get(%d): %d, Part: %d bytes", f, n.Get(f), n.Part(f).Size())
		}
	}
	if n.Where() != 0 || n.Name() != "" || n != (Node{}) || n.Owner() != 0 || n.Clear() != 0 || len(n.Objects()) != 0 {
		t.Errorf("it is %q, at %d", n.Name(), n.Where())
	}
	if at, e := n.Alloc(1, 1); at != 0 || e != api.ErrNil {
		t.Errorf("Alloc: %d, error %d", at, e)
	}
	is(t, "Begin", n.Begin(1), api.ErrNil)
}

// P18.3

// What a node has for itself is stored in its record, and in no other byte.
func TestOnlyTheRecordIsStoredIn(t *testing.T) {
	r := fresh(t, 20)
	junk(t, r, 1)
	n := create(t, r, 1, 256, "")
	before := whole(t, r.Arena)
	for f := range 13 {
		n.Set(f, math.MaxUint64)
	}
	for part := range sizes {
		is(t, "Fill", n.Part(part).Fill(0, sizes[part], 'p'), api.OK)
	}
	for at, b := range []byte(whole(t, r.Arena)) {
		if mine := at >= n.Where()+32 && at < n.Where()+1024; !mine && b != before[at] {
			t.Fatalf("the byte %d has changed", at)
		}
	}
	// Nor does Make store in the chunk's bytes behind the record: none of them are the node's.
	for at, b := range []byte(before[n.Where()+1024 : n.Where()+8192]) {
		if b != 0xff {
			t.Fatalf("the byte %d behind the record is %d", at, b)
		}
	}
}

// Numbers, name, parts and objects are all laid full, in turns, and none reaches into another one.
func TestAllIsApart(t *testing.T) {
	for _, name := range []string{"", "1234567890123456"} {
		r := fresh(t, 60)
		junk(t, r, 0, 0, 1)
		n := create(t, r, 0, 256, name)
		full := func(b byte) {
			nums := make([]uint64, 13)
			for f := range nums {
				nums[f] = uint64(b) * 0x0101010101010101
				n.Set(f, nums[f])
			}
			for part := range sizes {
				is(t, "Fill", n.Part(part).Fill(0, sizes[part], b), api.OK)
			}
			tells(t, n, name, nums...)
		}
		var laid []object.Object
		text := ""
		is(t, "Begin", n.Begin(8), api.OK)
		for _, b := range []byte{0xff, 0, 1, 0x80, 'x', 0xff} {
			full(b)
			is(t, "Grow", n.Grow(strings.Repeat(string([]byte{b}), 700)), api.OK)
			text += strings.Repeat(string([]byte{b}), 700)
			full(b)
			if s, e := n.Text(); s != text || e != api.OK {
				t.Fatalf("what grows has %.20q .., error %d", s, e)
			}
			for part := range sizes {
				holds(t, n, part, b)
			}
			found(t, r, n)
		}
		at, e := n.Finish()
		is(t, "Finish", e, api.OK)
		laid = append(laid, object.Object{At: at, Size: len(text)})
		for _, size := range []int{0, 1, 3000, 10000} {
			at, e := n.Alloc(size, 16)
			is(t, "Alloc", e, api.OK)
			is(t, "Fill", n.Fill(at, size, 'o'), api.OK)
			laid = append(laid, object.Object{At: at, Size: size, Prev: laid[len(laid)-1].At})
			full('f')
		}
		slices.Reverse(laid)
		if !slices.Equal(n.Objects(), laid) || n.Held() != 0 {
			t.Fatalf("its objects are %v, wanted %v", n.Objects(), laid)
		}
		if s, e := n.Bytes(at, len(text)); s != text || e != api.OK {
			t.Error("the first object has other bytes")
		}
		for part := range sizes {
			holds(t, n, part, 'f')
		}
		if n.Name() != name {
			t.Errorf("its name is %q", n.Name())
		}
		for _, o := range laid {
			if o.At-16 >= n.Where() && o.At-16 < n.Where()+1024 {
				t.Errorf("%v lies in the record", o)
			}
		}
		n.Empty()
		full('e')
		found(t, r, n)
	}
}

// A node's first object stands behind its front, in a chunk of whatever order.
func TestObjectsStandBehindTheFront(t *testing.T) {
	for order := range 4 {
		for align := 1; align <= 64; align *= 2 {
			r := fresh(t, 60)
			n := create(t, r, order, 256, "a")
			size := api.Page<<order - 1024 - max(16, align)
			at, e := n.Alloc(size, align)
			if wanted := n.Where() + 1024 + max(16, align); at != wanted || e != api.OK || len(n.Chunks()) != 1 {
				t.Errorf("Alloc(%d, %d): %d, error %d, wanted %d", size, align, at, e, wanted)
			}
			is(t, "Free", n.Free(at), api.OK)
			at, e = n.Alloc(size+1, align)
			if c, _ := n.Newest(); e != api.OK || len(n.Chunks()) != 2 || at != c.At+32+max(16, align) && align <= 16 {
				t.Errorf("Alloc(%d, %d): %d, error %d, in %v", size+1, align, at, e, n.Chunks())
			}
		}
	}
}

func TestClear(t *testing.T) {
	r := fresh(t, 60)
	n, m := create(t, r, 0, 256, "a"), create(t, r, 1, 257, "b")
	for _, size := range []int{100, 5000, 20000} {
		_, e := n.Alloc(size, 8)
		is(t, "Alloc", e, api.OK)
	}
	all := n.Chunks()
	if n.Clear() != 3 || len(all) != 3 {
		t.Errorf("its chunks were %v", all)
	}
	for _, c := range all {
		missing(t, r, c.At, api.ErrKind)
	}
	found(t, r, m)
	m.Clear()
	missing(t, r, m.Where(), api.ErrKind)
	r.Trim()
	for _, at := range []int{n.Where(), m.Where()} {
		missing(t, r, at, api.ErrKind)
	}
	if census.Count(r.Buddy, census.Taken) != 1 || !census.Right(r.Buddy) {
		t.Errorf("the runs are %v", r.Runs())
	}
	r.Shrink()
	missing(t, r, n.Where(), api.ErrRange)
	create(t, r, 0, 258, "c")
}

// model is a node as its chapter's words have it.
type model struct {
	at     int
	handle uint64
	name   string
	nums   []uint64
	parts  []byte
	texts  []string // its objects' bytes, the oldest first
}

// play is nodes and their models.
type play struct {
	t   *testing.T
	r   *recycler.Recycler
	all []*model
	x   int // the numbers of a step follow from the one's ahead
}

func (p *play) number(below int) int {
	p.x = (p.x*1103515245 + 12345) % (1 << 31)
	return p.x / 64 % below
}

// node: that of a model.
func (p *play) node(m *model) Node {
	p.t.Helper()
	n, e := At(p.r, m.at)
	is(p.t, "At", e, api.OK)
	return n
}

func (p *play) make() {
	order, name := p.number(3), strings.Repeat(string([]byte{byte(p.number(256))}), p.number(17))
	h := uint64(256 + p.number(8))
	n, e := Make(p.r, order, api.Handle(h), name)
	if e == api.ErrNoMemory {
		return
	}
	is(p.t, "Make", e, api.OK)
	m := &model{n.Where(), h, name, make([]uint64, 13), make([]byte, 5), nil}
	m.nums[Handle] = h
	p.all = append(p.all, m)
}

// passer: somebody else has a chunk for a while, and leaves other bytes in it.
func (p *play) passer() {
	c, e := p.r.Take(p.number(2), uint64(256+p.number(8)))
	if e != api.OK {
		return
	}
	missing(p.t, p.r, c.At, api.ErrKind)
	from := 32 + p.number(1000)
	is(p.t, "Fill", p.r.Fill(c.At+from, p.number(4096-from), byte(p.number(256))), api.OK)
	missing(p.t, p.r, c.At, api.ErrKind)
	is(p.t, "Give", p.r.Give(c.At), api.OK)
}

func (p *play) step() {
	if len(p.all) == 0 {
		p.make()
		return
	}
	i := p.number(len(p.all))
	m := p.all[i]
	n := p.node(m)
	switch k := p.number(20); {
	case k == 0:
		p.make()
	case k == 1:
		chunks := n.Chunks()
		if n.Clear() != len(chunks) {
			p.t.Fatalf("not all of %v are given back", chunks)
		}
		for _, c := range chunks {
			missing(p.t, p.r, c.At, api.ErrKind)
		}
		p.all = slices.Delete(p.all, i, i+1)
	case k < 6:
		f := p.number(13)
		m.nums[f] = values[p.number(len(values))]
		n.Set(f, m.nums[f])
	case k < 10:
		part := p.number(5)
		m.parts[part] = byte(p.number(256))
		is(p.t, "Fill", n.Part(part).Fill(0, sizes[part], m.parts[part]), api.OK)
	case k < 15:
		text := strings.Repeat(string([]byte{byte(p.number(256))}), []int{p.number(100), p.number(5000), p.number(20000)}[p.number(3)])
		if at, e := n.Alloc(len(text), 1<<p.number(7)); e == api.OK {
			is(p.t, "Put", n.Put(at, text), api.OK)
			m.texts = append(m.texts, text)
		}
	case k < 17 && len(m.texts) > 0:
		left := p.number(len(m.texts))
		is(p.t, "Free", n.Free(n.Objects()[len(m.texts)-1-left].At), api.OK)
		m.texts = m.texts[:left]
	case k == 17:
		p.r = anew(p.t, p.r.Clone())
	default:
		p.passer()
	}
}

// look: do all nodes tell what they should?
func (p *play) look() {
	p.t.Helper()
	for _, m := range p.all {
		n := p.node(m)
		tells(p.t, n, m.name, m.nums...)
		for part, b := range m.parts {
			holds(p.t, n, part, b)
		}
		if n.Owner() != m.handle || n.Where() != m.at || len(n.Objects()) != len(m.texts) {
			p.t.Fatalf("the node of %d at %d has %v", n.Owner(), n.Where(), n.Objects())
		}
		for i, o := range n.Objects() {
			if s, e := n.Bytes(o.At, o.Size); s != m.texts[len(m.texts)-1-i] || e != api.OK {
				p.t.Fatalf("%v has %.20q, wanted %.20q", o, s, m.texts[len(m.texts)-1-i])
			}
		}
	}
}

func TestAsTheChapterSays(t *testing.T) {
	for _, pages := range []int{1, 3, 20, 100, 200} {
		p := &play{t: t, r: fresh(t, pages), x: pages}
		for range 1000 {
			p.step()
			p.look()
		}
		// When all are cleared, and what is cached went back, nothing is taken but the run of the recycler's view.
		for _, m := range p.all {
			p.node(m).Clear()
		}
		p.r.Trim()
		if census.Count(p.r.Buddy, census.Taken) != 1 || !census.Right(p.r.Buddy) {
			t.Errorf("of %d pages: the runs are %v", pages, p.r.Runs())
		}
	}
}
