package chain

import (
	"math"
	"slices"
	"strings"
	"testing"

	"millpond/api"
	"millpond/arena"
	"millpond/buddy"
	"millpond/census"
	"millpond/chunk"
	"millpond/recycler"
	"millpond/view"
)

// far: numbers that are no place of any of these tests' arenas.
var far = []int{math.MinInt, math.MinInt + 4096, -4096, -32, -1, api.Most, math.MaxInt - 4095, math.MaxInt - 31, math.MaxInt}

// is: a test ends, if an error is another one than was wanted.
func is(t *testing.T, what string, got, wanted api.Errno) {
	t.Helper()
	if got != wanted {
		t.Fatalf("%s: error %d, wanted %d", what, got, wanted)
	}
}

// of: a view that is there.
func of(t *testing.T, a *arena.Arena, at, size int) view.View {
	t.Helper()
	v, e := view.Of(a, at, size)
	is(t, "view.Of", e, api.OK)
	return v
}

// fresh: a new recycler, of an arena that has so many pages beside the buddy's first one and another one, whose first 64 bytes are the recycler's; the others are for chains' views.
func fresh(t *testing.T, pages int) *recycler.Recycler {
	t.Helper()
	b, e := buddy.New(arena.New(pages + 2))
	is(t, "buddy.New", e, api.OK)
	at, e := b.Alloc(0)
	is(t, "Alloc", e, api.OK)
	r, e := recycler.New(b, of(t, b.Arena, at, 64))
	is(t, "recycler.New", e, api.OK)
	return r
}

// anew: the recycler over an arena where one stands already.
func anew(t *testing.T, a *arena.Arena) *recycler.Recycler {
	t.Helper()
	b, e := buddy.Open(a)
	is(t, "buddy.Open", e, api.OK)
	r, e := recycler.Open(b, of(t, a, b.Base()*api.Page, 64))
	is(t, "recycler.Open", e, api.OK)
	return r
}

// place: where the view of the i-th chain is; one lies right behind the other.
func place(r *recycler.Recycler, i int) int {
	return r.Base()*api.Page + 64 + 8*i
}

// open: the i-th chain.
func open(t *testing.T, r *recycler.Recycler, i int, owner uint64) Chain {
	t.Helper()
	c, e := Open(r, of(t, r.Arena, place(r, i), 8), owner)
	is(t, "Open", e, api.OK)
	return c
}

// push: a chunk more, that is told, and whose header stands.
func push(t *testing.T, c Chain, order int) chunk.Chunk {
	t.Helper()
	before := c.Chunks()
	x, e := c.Push(order)
	is(t, "Push", e, api.OK)
	if x.Order < order || x.Owner != c.Owner() || len(before) == 0 && x.Next != 0 || len(before) > 0 && x.Next != before[0].At {
		t.Fatalf("Push(%d): %v", order, x)
	}
	has(t, c, append([]chunk.Chunk{x}, before...)...)
	return x
}

// take: a chunk of an owner that is in no chain.
func take(t *testing.T, r *recycler.Recycler, order int, owner uint64) chunk.Chunk {
	t.Helper()
	x, e := r.Take(order, owner)
	is(t, "Take", e, api.OK)
	return x
}

// has: does a chain tell these chunks, each with the next one's address, and do their headers, too?
func has(t *testing.T, c Chain, wanted ...chunk.Chunk) {
	t.Helper()
	bytes, next := 0, 0
	for i := len(wanted) - 1; i >= 0; i-- {
		wanted[i].Next = next
		next = wanted[i].At
		bytes += api.Page << wanted[i].Order
		if x, e := chunk.Read(c.Arena, next); e != api.OK || x != wanted[i] {
			t.Fatalf("in the header at %d stands %v, error %d, wanted %v", next, x, e, wanted[i])
		}
	}
	if all := c.Chunks(); !slices.Equal(all, wanted) || c.Size() != bytes {
		t.Fatalf("it tells %v, and %d bytes, wanted %v, and %d", all, c.Size(), wanted, bytes)
	}
	newest, some := c.Newest()
	if some != (len(wanted) > 0) || some && newest != wanted[0] || !some && newest != (chunk.Chunk{}) {
		t.Fatalf("the newest one is %v, %t, wanted %v", newest, some, wanted)
	}
}

// cached: is that chunk the newest one of its bin?
func cached(t *testing.T, r *recycler.Recycler, x chunk.Chunk) {
	t.Helper()
	y, e := chunk.Read(r.Arena, x.At)
	if all := r.Bins().All(x.Order); e != api.OK || y.Owner != 0 || len(all) == 0 || all[0] != x.At {
		t.Fatalf("%v isn't the newest that is cached: its header is %v, error %d; the bin is %v", x, y, e, all)
	}
}

// freed: is the chunk's run free, and its header gone?
func freed(t *testing.T, r *recycler.Recycler, x chunk.Chunk) {
	t.Helper()
	_, e := chunk.Read(r.Arena, x.At)
	_, f := r.Order(x.At)
	if e != api.ErrKind || f != api.ErrNone || !census.Right(r.Buddy) {
		t.Fatalf("%v isn't free: errors %d, %d", x, e, f)
	}
}

// whole: all bytes that are committed, page by page.
func whole(t *testing.T, a *arena.Arena) string {
	t.Helper()
	var all strings.Builder
	for first, n := range a.Pages().Rows() {
		s, e := a.Bytes(first*api.Page, n*api.Page)
		is(t, "Bytes", e, api.OK)
		all.WriteString(s)
	}
	return all.String()
}

// same: a call changes nothing.
func same(t *testing.T, a *arena.Arena, what string, call func()) {
	t.Helper()
	before := whole(t, a)
	call()
	if whole(t, a) != before {
		t.Fatalf("%s changes something", what)
	}
}

func TestExample(t *testing.T) {
	c := open(t, fresh(t, 20), 0, 1)
	x := push(t, c, 0)
	y := push(t, c, 0)
	if newest, some := c.Newest(); newest != y || !some || y.Next != x.At {
		t.Errorf("the newest one is %v, %t", newest, some)
	}
}

func TestOpen(t *testing.T) {
	r := fresh(t, 20)
	at := r.Base()*api.Page + 64
	is(t, "Fill", r.Fill(at+8, 100, 'x'), api.OK)
	for _, size := range []int{8, 9, 16, 32, 108} {
		for _, owner := range []uint64{1, 2, 1 << 32, math.MaxUint64} {
			same(t, r.Arena, "Open", func() {
				c, e := Open(r, of(t, r.Arena, at, size), owner)
				is(t, "Open", e, api.OK)
				has(t, c)
				if c.Owner() != owner || c.Recycler != r || c.Clear() != 0 {
					t.Errorf("its owner is %d, wanted %d", c.Owner(), owner)
				}
			})
			c, _ := Open(r, of(t, r.Arena, at, size), owner)
			x := push(t, c, 0)
			y := push(t, c, 1)
			is(t, "DropNext", c.DropNext(), api.OK)
			has(t, c, y)
			cached(t, r, x)
			if s, _ := r.Bytes(at+8, 100); s != strings.Repeat("x", 100) {
				t.Errorf("bytes behind the first 8 of the view have changed")
			}
			if c.Clear() != 1 {
				t.Errorf("it isn't cleared")
			}
			if s, _ := r.Bytes(at, 8); s != strings.Repeat("\x00", 8) {
				t.Errorf("noughts are a chain without chunks, but of one stands %q", s)
			}
		}
	}
}

func TestOpenRefuses(t *testing.T) {
	r := fresh(t, 20)
	v := of(t, r.Arena, place(r, 0), 8)
	none := func(what string, r *recycler.Recycler, v view.View, owner uint64, wanted api.Errno) {
		t.Helper()
		if c, e := Open(r, v, owner); c != (Chain{}) || e != wanted {
			t.Fatalf("Open, %s: %v, error %d, wanted %d", what, c, e, wanted)
		}
	}
	same(t, r.Arena, "Open", func() {
		none("of nothing", nil, view.View{}, 0, api.ErrNil)
		none("of no recycler", nil, v, 1, api.ErrNil)
		none("of no recycler, and nobody", nil, v, 0, api.ErrNil)
		none("of no recycler, nor room", nil, of(t, r.Arena, place(r, 0), 7), 0, api.ErrNil)
		none("of the zero view", r, view.View{}, 1, api.ErrNil)
		none("of the zero view, and nobody", r, view.View{}, 0, api.ErrNil)
		for size := range 8 {
			none("without room", r, of(t, r.Arena, place(r, 0), size), 1, api.ErrRange)
			none("without room, and nobody", r, of(t, r.Arena, place(r, 0), size), 0, api.ErrRange)
		}
		none("of nobody", r, v, 0, api.ErrArg)
	})
	a := arena.New(1)
	is(t, "Commit", a.Commit(0, 1), api.OK)
	gone := of(t, a, 0, 8)
	is(t, "Decommit", a.Decommit(0, 1), api.OK)
	none("of bytes that aren't there any more", r, gone, 1, api.ErrRange)
}

// nothing: a chain that has no chunks tells none, and what is asked of it is refused; it changes nothing.
func nothing(t *testing.T, c Chain, wanted api.Errno) {
	t.Helper()
	newest, some := c.Newest()
	if newest != (chunk.Chunk{}) || some || len(c.Chunks()) != 0 || c.Size() != 0 || c.Clear() != 0 {
		t.Fatalf("the newest one is %v, %t; the chunks are %v", newest, some, c.Chunks())
	}
	is(t, "Drop", c.Drop(), wanted)
	is(t, "DropNext", c.DropNext(), wanted)
}

func TestTheZeroChain(t *testing.T) {
	var c Chain
	nothing(t, c, api.ErrNil)
	if c.Owner() != 0 || c.Recycler != nil {
		t.Errorf("it tells %v", c)
	}
	for _, order := range []int{math.MinInt, -1, 0, 1, 10, 11, math.MaxInt} {
		if x, e := c.Push(order); x != (chunk.Chunk{}) || e != api.ErrNil {
			t.Errorf("Push(%d): %v, error %d", order, x, e)
		}
	}
	for _, at := range append(far, 0, 1, 4096, 8192) {
		is(t, "Join", c.Join(at), api.ErrNil)
	}
}

func TestAChainWithoutChunks(t *testing.T) {
	r := fresh(t, 20)
	c := open(t, r, 0, 1)
	same(t, r.Arena, "what is asked of it", func() { nothing(t, c, api.ErrEmpty) })
	push(t, c, 0)
	is(t, "Drop", c.Drop(), api.OK)
	same(t, r.Arena, "what is asked of it", func() { nothing(t, c, api.ErrEmpty) })
	push(t, c, 0)
	if c.Clear() != 1 {
		t.Error("Clear")
	}
	same(t, r.Arena, "what is asked of it", func() { nothing(t, c, api.ErrEmpty) })
}

func TestItsRecyclerAnswers(t *testing.T) {
	r := fresh(t, 20)
	c := open(t, r, 0, 1)
	x := push(t, c, 1)
	is(t, "Drop", c.Drop(), api.OK)
	if c.Cached() != 2 || c.Keeps() != 16 || c.Grown() != r.Grown() || c.Base() != 1 || c.Cap() != 22 || c.Trim() != 2 {
		t.Errorf("cached are %d", c.Cached())
	}
	freed(t, r, x)
}

func TestPushEachOrder(t *testing.T) {
	r := fresh(t, 8000)
	c := open(t, r, 0, math.MaxUint64)
	bytes := 0
	for order := range api.MaxOrder + 1 {
		for range 2 {
			if x := push(t, c, order); x.Order != order {
				t.Errorf("Push(%d): %v", order, x)
			}
			bytes += api.Page << order
		}
	}
	if len(c.Chunks()) != 22 || c.Size() != bytes || !census.Right(r.Buddy) {
		t.Errorf("there are %d chunks, of %d bytes", len(c.Chunks()), c.Size())
	}
}

func TestPushTakesWhatIsCached(t *testing.T) {
	r := fresh(t, 40)
	c := open(t, r, 0, 7)
	first := push(t, c, 0)
	x := take(t, r, 3, 9)
	is(t, "Give", r.Give(x.At), api.OK)
	if y := push(t, c, 1); y != (chunk.Chunk{At: x.At, Order: 3, Owner: 7, Next: first.At}) || c.Size() != 9*api.Page {
		t.Errorf("Push: %v", y)
	}
}

// A refused Push changes nothing but what Take's words say.
func TestPushRefuses(t *testing.T) {
	r := fresh(t, 16)
	c := open(t, r, 0, 7)
	refused := func(order int, wanted api.Errno) {
		t.Helper()
		if x, e := c.Push(order); x != (chunk.Chunk{}) || e != wanted {
			t.Fatalf("Push(%d): %v, error %d, wanted %d", order, x, e, wanted)
		}
	}
	for range 3 {
		same(t, r.Arena, "a refused Push", func() {
			for _, order := range []int{math.MinInt, math.MinInt + 1, -11, -1, 11, 12, 32, 64, math.MaxInt} {
				refused(order, api.ErrArg)
			}
			for _, order := range []int{5, 6, 10} {
				refused(order, api.ErrNoMemory)
			}
		})
		push(t, c, 2)
	}
	for e := api.OK; e == api.OK; {
		_, e = c.Push(0)
	}
	same(t, r.Arena, "a refused Push", func() { refused(0, api.ErrNoMemory) })
	if len(c.Chunks()) != 7 || c.Size() != 16*api.Page {
		t.Errorf("it has %v", c.Chunks())
	}
	is(t, "Drop", c.Drop(), api.OK)
	all := c.Chunks()
	refused(1, api.ErrNoMemory)
	if c.Cached() != 0 {
		t.Errorf("where there is no memory all that is cached goes back: %d pages are", c.Cached())
	}
	has(t, c, all...)
	push(t, c, 0)
}

func TestPushWhereCommitIsRefused(t *testing.T) {
	r := fresh(t, 16)
	c := open(t, r, 0, 7)
	x := push(t, c, 0)
	r.Refuse(0)
	if y, e := c.Push(1); y != (chunk.Chunk{}) || e != api.ErrNoMemory {
		t.Errorf("Push: %v, error %d", y, e)
	}
	has(t, c, x)
	push(t, c, 1)
}

func TestJoin(t *testing.T) {
	r := fresh(t, 80)
	c := open(t, r, 0, 7)
	var all []chunk.Chunk
	for order := range 4 {
		x := take(t, r, order, 7)
		has(t, c, all...)
		is(t, "Join", c.Join(x.At), api.OK)
		all = slices.Insert(all, 0, x)
		has(t, c, all...)
		all = slices.Insert(all, 0, push(t, c, order))
	}
	for range 4 {
		all = all[1:]
		is(t, "Drop", c.Drop(), api.OK)
		has(t, c, all...)
	}
}

// What a chunk told as its next one ahead is nothing to a chain.
func TestJoinOfAChunkWithANextOne(t *testing.T) {
	for _, next := range []int{4096, 12288, 40960, api.Most, math.MaxInt} {
		r := fresh(t, 20)
		c := open(t, r, 0, 7)
		x, y := take(t, r, 0, 7), take(t, r, 1, 7)
		x.Next, y.Next = next, next
		is(t, "chunk.Write", chunk.Write(r.Arena, x), api.OK)
		is(t, "chunk.Write", chunk.Write(r.Arena, y), api.OK)
		is(t, "Join", c.Join(y.At), api.OK)
		has(t, c, y)
		is(t, "Join", c.Join(x.At), api.OK)
		has(t, c, x, y)
	}
}

func TestJoinRefuses(t *testing.T) {
	r := fresh(t, 40)
	c, d := open(t, r, 0, 7), open(t, r, 1, 8)
	x, y, z := push(t, c, 0), push(t, c, 1), push(t, c, 0)
	theirs := push(t, d, 0)
	alone := take(t, r, 0, 9)
	nobodys := take(t, r, 0, 7)
	is(t, "Give", r.Give(nobodys.At), api.OK)
	back := take(t, r, 4, 7)
	r.Keep(1)
	is(t, "Give", r.Give(back.At), api.OK)
	same(t, r.Arena, "a refused Join", func() {
		for _, at := range append(far, r.Cap()*api.Page, r.Cap()*api.Page-4096, (r.Base()+r.Grown())*api.Page, (r.Base()+r.Grown())*api.Page-31) {
			is(t, "Join of what isn't there", c.Join(at), api.ErrRange)
		}
		for _, at := range []int{0, 1, 4096, 4160, x.At + 1, x.At + 32, y.At + 4096, y.At - 8, back.At, back.At + 4096} {
			is(t, "Join of no chunk", c.Join(at), api.ErrKind)
		}
		is(t, "Join of another one's", c.Join(theirs.At), api.ErrOrder)
		is(t, "Join of another one's", c.Join(alone.At), api.ErrOrder)
		is(t, "Join of nobody's", c.Join(nobodys.At), api.ErrOrder)
		is(t, "Join of another one's that is in its chain", d.Join(z.At), api.ErrOrder)
		for _, at := range []int{x.At, y.At, z.At} {
			is(t, "Join of its own", c.Join(at), api.ErrThere)
		}
	})
	has(t, c, z, y, x)
	has(t, d, theirs)
	// What is given back is the owner's no more.
	is(t, "DropNext", c.DropNext(), api.OK)
	is(t, "Join of what was given back", c.Join(y.At), api.ErrKind)
	has(t, c, z, x)
}

func TestDrop(t *testing.T) {
	r := fresh(t, 80)
	c := open(t, r, 0, 7)
	x, y, z := push(t, c, 0), push(t, c, 5), push(t, c, 1)
	is(t, "Drop", c.Drop(), api.OK)
	has(t, c, y, x)
	cached(t, r, z)
	is(t, "Drop", c.Drop(), api.OK)
	has(t, c, x)
	freed(t, r, y)
	is(t, "Drop", c.Drop(), api.OK)
	has(t, c)
	cached(t, r, x)
	is(t, "Drop", c.Drop(), api.ErrEmpty)
	if r.Trim() != 3 || census.Count(r.Buddy, census.Taken) != 1 {
		t.Error("not all is given back")
	}
}

func TestDropNext(t *testing.T) {
	r := fresh(t, 80)
	c := open(t, r, 0, 7)
	x, y, z, w := push(t, c, 2), push(t, c, 5), push(t, c, 1), push(t, c, 0)
	is(t, "DropNext", c.DropNext(), api.OK)
	has(t, c, w, y, x)
	cached(t, r, z)
	is(t, "DropNext", c.DropNext(), api.OK)
	has(t, c, w, x)
	freed(t, r, y)
	is(t, "DropNext", c.DropNext(), api.OK)
	has(t, c, w)
	cached(t, r, x)
	same(t, r.Arena, "a refused DropNext", func() { is(t, "DropNext", c.DropNext(), api.ErrEmpty) })
	has(t, c, w)
	v := push(t, c, 0)
	has(t, c, v, w)
	is(t, "DropNext", c.DropNext(), api.OK)
	is(t, "Drop", c.Drop(), api.OK)
	is(t, "DropNext", c.DropNext(), api.ErrEmpty)
	has(t, c)
}

// The newest goes back first, so it is the oldest one in its bin.
func TestClear(t *testing.T) {
	for n := range 6 {
		r := fresh(t, 80)
		c := open(t, r, 0, 7)
		var all []int
		for range n {
			all = slices.Insert(all, 0, push(t, c, 1).At)
		}
		if many := c.Clear(); many != n {
			t.Errorf("Clear of %d chunks: %d", n, many)
		}
		has(t, c)
		slices.Reverse(all)
		if got := r.Bins().All(1); !slices.Equal(got, all) {
			t.Errorf("cached are %v, wanted %v", got, all)
		}
		if c.Clear() != 0 {
			t.Error("Clear again")
		}
	}
}

// As many are kept as may be, those that go back first; the others' runs are free.
func TestClearOfMoreThanIsKept(t *testing.T) {
	r := fresh(t, 80)
	r.Keep(3)
	c := open(t, r, 0, 7)
	x, y, z, w := push(t, c, 0), push(t, c, 1), push(t, c, 5), push(t, c, 1)
	if many := c.Clear(); many != 4 {
		t.Errorf("Clear: %d", many)
	}
	has(t, c)
	freed(t, r, y)
	freed(t, r, z)
	cached(t, r, w)
	cached(t, r, x)
	if r.Trim() != 3 || census.Count(r.Buddy, census.Taken) != 1 {
		t.Error("not all is given back")
	}
}

// A refused call changes nothing: here a header stands where no run begins, so it can't be given back.
func TestWhatCannotBeGivenBackStays(t *testing.T) {
	r := fresh(t, 80)
	r.Keep(0)
	c := open(t, r, 0, 7)
	x := push(t, c, 3)
	y := chunk.Chunk{At: x.At + api.Page, Owner: 7}
	is(t, "chunk.Write", chunk.Write(r.Arena, y), api.OK)
	is(t, "Join", c.Join(y.At), api.OK)
	has(t, c, y, x)
	same(t, r.Arena, "a refused Drop", func() { is(t, "Drop", c.Drop(), api.ErrNone) })
	z := push(t, c, 0)
	has(t, c, z, y, x)
	same(t, r.Arena, "a refused DropNext", func() { is(t, "DropNext", c.DropNext(), api.ErrNone) })
	if many := c.Clear(); many != 2 {
		t.Errorf("Clear: %d", many)
	}
	has(t, c)
}

// home: a chain of so many chunks, whose view lies in the i-th of them (0: the newest).
func home(t *testing.T, r *recycler.Recycler, n, i int) (Chain, []chunk.Chunk) {
	t.Helper()
	x := take(t, r, 0, 7)
	v := of(t, r.Arena, x.At+api.Head, 8)
	is(t, "Fill", v.Fill(0, 8, 0), api.OK)
	c, e := Open(r, v, 7)
	is(t, "Open", e, api.OK)
	for k := n - 1; k >= 0; k-- {
		if k == i {
			is(t, "Join", c.Join(x.At), api.OK)
		} else {
			push(t, c, 0)
		}
	}
	return c, c.Chunks()
}

func TestAViewInAChunkOfItsOwn(t *testing.T) {
	for _, keeps := range []int{0, 1, 16} {
		for n := 1; n < 5; n++ {
			for i := range n {
				r := fresh(t, 80)
				r.Keep(keeps)
				c, all := home(t, r, n, i)
				if len(all) != n || all[i].At+api.Head != of(t, r.Arena, all[i].At+api.Head, 8).At() {
					t.Fatalf("it has %v", all)
				}
				if many := c.Clear(); many != n {
					t.Errorf("of %d, the view in %d: Clear: %d", n, i, many)
				}
				if r.Cached() != min(keeps, n) || r.Trim() != min(keeps, n) || census.Count(r.Buddy, census.Taken) != 1 || !census.Right(r.Buddy) {
					t.Errorf("of %d, the view in %d: not all is given back", n, i)
				}

				r = fresh(t, 80)
				r.Keep(keeps)
				c, all = home(t, r, n, i)
				for k := range i + 1 {
					is(t, "Drop", c.Drop(), api.OK)
					has(t, c, all[k+1:]...)
				}

				r = fresh(t, 80)
				r.Keep(keeps)
				c, all = home(t, r, n, i)
				for len(all) > 1 && i != 1 {
					is(t, "DropNext", c.DropNext(), api.OK)
					all = slices.Delete(all, 1, 2)
					has(t, c, all...)
					i = max(i-1, 0)
				}
			}
		}
	}
}

// In a chunk that was given back nothing is stored any more: whoever has it then has it alone.
func TestClearStoresInNoChunkThatWentBack(t *testing.T) {
	for i := range 4 {
		r := fresh(t, 80)
		r.Keep(0)
		c, all := home(t, r, 4, i)
		c.Clear()
		for _, x := range all {
			freed(t, r, x)
			if s, e := r.Bytes(x.At+api.Head, api.Page-api.Head); e != api.OK || s != strings.Repeat("\x00", api.Page-api.Head) {
				t.Errorf("the view in %d: other bytes than noughts are in %v", i, x)
			}
		}
	}
}

func TestOpenedAnew(t *testing.T) {
	r := fresh(t, 40)
	c, d := open(t, r, 0, 7), open(t, r, 1, 8)
	x, y, z := push(t, c, 0), push(t, d, 1), push(t, c, 2)
	for _, s := range []*recycler.Recycler{r, anew(t, r.Arena), anew(t, r.Clone())} {
		same(t, s.Arena, "Open", func() {
			has(t, open(t, s, 0, 7), z, x)
			has(t, open(t, s, 1, 8), y)
			has(t, open(t, s, 2, 9))
		})
	}
	// What is done over a clone isn't done here.
	s := anew(t, r.Clone())
	e := open(t, s, 0, 7)
	is(t, "Drop", e.Drop(), api.OK)
	push(t, e, 1)
	has(t, c, z, x)
	if open(t, s, 1, 8).Clear() != 1 {
		t.Error("Clear over a clone")
	}
	has(t, d, y)
	// What is asked of one that stands at the same place changes what all others of that place tell.
	f := open(t, anew(t, r.Arena), 0, 7)
	w := push(t, f, 0)
	has(t, c, w, z, x)
	is(t, "DropNext", c.DropNext(), api.OK)
	has(t, f, w, x)
	if f.Clear() != 2 {
		t.Error("Clear")
	}
	has(t, c)
}

// The lists that are told are new memory.
func TestChunksAreNewMemory(t *testing.T) {
	r := fresh(t, 40)
	c := open(t, r, 0, 7)
	x, y := push(t, c, 0), push(t, c, 0)
	all := c.Chunks()
	clear(all[:cap(all)])
	has(t, c, y, x)
}

// The view may be of another arena than the chunks.
func TestAViewOfAnotherArena(t *testing.T) {
	r := fresh(t, 40)
	a := arena.New(1)
	is(t, "Commit", a.Commit(0, 1), api.OK)
	c, e := Open(r, of(t, a, 100, 8), 7)
	is(t, "Open", e, api.OK)
	x, y := push(t, c, 0), push(t, c, 1)
	has(t, c, y, x)
	is(t, "Drop", c.Drop(), api.OK)
	has(t, c, x)
	// Where it goes, the chain tells nothing; what is refused has taken no chunk.
	is(t, "Decommit", a.Decommit(0, 1), api.OK)
	taken := r.Cached()
	nothing(t, c, api.ErrEmpty)
	if z, e := c.Push(0); z != (chunk.Chunk{}) || e != api.ErrRange || r.Cached() != taken {
		t.Errorf("Push: %v, error %d", z, e)
	}
	is(t, "Join", c.Join(x.At), api.ErrRange)
	if got, e := chunk.Read(r.Arena, x.At); e != api.OK || got != x {
		t.Errorf("Join has changed the header to %v", got)
	}
}

// Every call ends, even where two chains of one owner have joined one chunk.
func TestTwoChainsOfOneOwner(t *testing.T) {
	r := fresh(t, 40)
	c, d := open(t, r, 0, 7), open(t, r, 1, 7)
	x, y := push(t, c, 0), push(t, c, 0)
	is(t, "Join", d.Join(x.At), api.OK)
	has(t, d, x)
	is(t, "Drop", d.Drop(), api.OK)
	z, e := c.Push(0)
	if e != api.OK || z.At != x.At || z.Next != y.At {
		t.Fatalf("Push: %v, error %d", z, e)
	}
	if len(c.Chunks()) != 2 || c.Size() != 2*api.Page || c.Join(y.At) != api.ErrThere || c.Clear() != 2 {
		t.Errorf("it tells %v", c.Chunks())
	}
	has(t, c)
}
