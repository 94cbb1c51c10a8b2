package region

import (
	"math"
	"slices"
	"strings"
	"testing"

	"millpond/api"
	"millpond/arena"
	"millpond/buddy"
	"millpond/census"
	"millpond/chunk"
	"millpond/object"
	"millpond/recycler"
	"millpond/view"
)

// far: numbers that are no place of any of these tests' arenas, nor sizes that any object has.
var far = []int{math.MinInt, math.MinInt + 4096, -4096, -32, -1, api.Most, math.MaxInt - 4095, math.MaxInt - 31, math.MaxInt}

// odd: numbers that are no alignments.
var odd = []int{math.MinInt, -64, -8, -2, -1, 0, 3, 5, 6, 7, 9, 12, 24, 48, 63, 65, 96, 128, 256, 4096, math.MaxInt}

// is: a test ends, if an error is another one than was wanted.
func is(t *testing.T, what string, got, wanted api.Errno) {
	t.Helper()
	if got != wanted {
		t.Fatalf("%s: error %d, wanted %d", what, got, wanted)
	}
}

// of: a view that is there.
func of(t *testing.T, a *arena.Arena, at, size int) view.View {
	t.Helper()
	v, e := view.Of(a, at, size)
	is(t, "view.Of", e, api.OK)
	return v
}

// fresh: a new recycler, of an arena that has so many pages beside the buddy's first one and another one, whose first 64 bytes are the recycler's; the others are for regions' views.
func fresh(t *testing.T, pages int) *recycler.Recycler {
	t.Helper()
	b, e := buddy.New(arena.New(pages + 2))
	is(t, "buddy.New", e, api.OK)
	at, e := b.Alloc(0)
	is(t, "Alloc", e, api.OK)
	r, e := recycler.New(b, of(t, b.Arena, at, 64))
	is(t, "recycler.New", e, api.OK)
	return r
}

// anew: the recycler over an arena where one stands already.
func anew(t *testing.T, a *arena.Arena) *recycler.Recycler {
	t.Helper()
	b, e := buddy.Open(a)
	is(t, "buddy.Open", e, api.OK)
	r, e := recycler.Open(b, of(t, a, b.Base()*api.Page, 64))
	is(t, "recycler.Open", e, api.OK)
	return r
}

// place: where the view of the i-th region is; one lies right behind the other.
func place(r *recycler.Recycler, i int) int {
	return r.Base()*api.Page + 64 + 32*i
}

// open: the i-th region; its owner is one more.
func open(t *testing.T, r *recycler.Recycler, i, front int) Region {
	t.Helper()
	g, e := Open(r, of(t, r.Arena, place(r, i), 32), uint64(i+1), front)
	is(t, "Open", e, api.OK)
	return g
}

// alloc: an object more, all nought, aligned, and the last one.
func alloc(t *testing.T, g Region, n, align int) int {
	t.Helper()
	before, used := g.Objects(), g.Used()
	at, e := g.Alloc(n, align)
	is(t, "Alloc", e, api.OK)
	prev := 0
	if len(before) > 0 {
		prev = before[0].At
	}
	o := object.Object{At: at, Size: n, Prev: prev}
	tells(t, g, append([]object.Object{o}, before...)...)
	if at%align != 0 || g.Used() != used+n {
		t.Fatalf("Alloc(%d, %d): %d, used %d of %d", n, align, at, g.Used(), used+n)
	}
	holds(t, g, at, strings.Repeat("\x00", n))
	if newest, _ := g.Newest(); !newest.Has(at-api.Small, n+api.Small) {
		t.Fatalf("%v isn't in the newest chunk, %v", o, newest)
	}
	return at
}

// resize: the last object has another size; its first bytes stay, the others are noughts.
func resize(t *testing.T, g Region, n, align int) int {
	t.Helper()
	all, used := g.Objects(), g.Used()
	was, e := g.Bytes(all[0].At, all[0].Size)
	is(t, "Bytes", e, api.OK)
	at, e := g.Resize(n, align)
	is(t, "Resize", e, api.OK)
	used += n - all[0].Size
	all[0].At, all[0].Size = at, n
	tells(t, g, all...)
	if at%align != 0 || g.Used() != used {
		t.Fatalf("Resize(%d, %d): %d, used %d of %d", n, align, at, g.Used(), used)
	}
	holds(t, g, at, (was + strings.Repeat("\x00", n))[:n])
	return at
}

// fill: all bytes of an object are one.
func fill(t *testing.T, g Region, at int, b byte) {
	t.Helper()
	o, e := object.Read(g.Arena, at)
	is(t, "object.Read", e, api.OK)
	is(t, "Fill", g.Fill(at, o.Size, b), api.OK)
}

// holds: do these bytes stand there?
func holds(t *testing.T, g Region, at int, wanted string) {
	t.Helper()
	if s, e := g.Bytes(at, len(wanted)); e != api.OK || s != wanted {
		t.Fatalf("at %d stand other bytes than %.40q .., error %d", at, wanted, e)
	}
}

// tells: does a region tell these objects, the last one first, and do their headers, too?
func tells(t *testing.T, g Region, wanted ...object.Object) {
	t.Helper()
	if all := g.Objects(); !slices.Equal(all, wanted) {
		t.Fatalf("it tells %v, wanted %v", all, wanted)
	}
	bytes := 0
	for _, o := range wanted {
		bytes += o.Size
		if x, e := object.Read(g.Arena, o.At); x != o || e != api.OK {
			t.Fatalf("in the header ahead of %d stands %v, error %d", o.At, x, e)
		}
	}
	var first object.Object
	if len(wanted) > 0 {
		first = wanted[0]
	}
	last, some := g.Last()
	if last != first || some != (len(wanted) > 0) || g.Mark() != first.At || g.Used() != bytes {
		t.Fatalf("the last one is %v, %t, the mark %d, used %d, wanted %v", last, some, g.Mark(), g.Used(), wanted)
	}
}

// in: are these the region's chunks, the newest first?
func in(t *testing.T, g Region, wanted ...int) {
	t.Helper()
	var all []int
	for _, c := range g.Chunks() {
		all = append(all, c.At)
	}
	if !slices.Equal(all, wanted) || !census.Right(g.Buddy) {
		t.Fatalf("its chunks are at %v, wanted %v", all, wanted)
	}
}

// newest: where its newest chunk is.
func newest(t *testing.T, g Region) int {
	t.Helper()
	c, some := g.Newest()
	if !some {
		t.Fatal("it has no chunk")
	}
	return c.At
}

// whole: all bytes that are committed, page by page.
func whole(t *testing.T, a *arena.Arena) string {
	t.Helper()
	var all strings.Builder
	for first, n := range a.Pages().Rows() {
		s, e := a.Bytes(first*api.Page, n*api.Page)
		is(t, "Bytes", e, api.OK)
		all.WriteString(s)
	}
	return all.String()
}

// same: a call changes nothing.
func same(t *testing.T, a *arena.Arena, what string, call func()) {
	t.Helper()
	before := whole(t, a)
	call()
	if whole(t, a) != before {
		t.Fatalf("%s changes something", what)
	}
}

// refused: Alloc answers an error, and 0, and changes nothing.
func refused(t *testing.T, g Region, n, align int, wanted api.Errno) {
	t.Helper()
	same(t, g.Arena, "a refused Alloc", func() {
		t.Helper()
		if at, e := g.Alloc(n, align); at != 0 || e != wanted {
			t.Fatalf("Alloc(%d, %d): %d, error %d, wanted %d", n, align, at, e, wanted)
		}
	})
}

// stays: Resize answers an error, and 0, and changes nothing.
func stays(t *testing.T, g Region, n, align int, wanted api.Errno) {
	t.Helper()
	same(t, g.Arena, "a refused Resize", func() {
		t.Helper()
		if at, e := g.Resize(n, align); at != 0 || e != wanted {
			t.Fatalf("Resize(%d, %d): %d, error %d, wanted %d", n, align, at, e, wanted)
		}
	})
}

// junk: chunks of these orders are cached, the first one the newest of its bin, all full of other bytes.
func junk(t *testing.T, r *recycler.Recycler, orders ...int) {
	t.Helper()
	var all []chunk.Chunk
	for _, order := range orders {
		c, e := r.Take(order, 99)
		is(t, "Take", e, api.OK)
		is(t, "Fill", r.Fill(c.At+api.Head, api.Page<<c.Order-api.Head, 'j'), api.OK)
		all = append(all, c)
	}
	for _, c := range slices.Backward(all) {
		is(t, "Give", r.Give(c.At), api.OK)
	}
}

func TestExample(t *testing.T) {
	g := open(t, fresh(t, 20), 0, 32)
	x := alloc(t, g, 10, 8)
	y := alloc(t, g, 1, 1)
	if c := newest(t, g); x != c+48 || y != c+74 {
		t.Errorf("in the chunk at %d they are at %d and %d", c, x, y)
	}
}

// P15.1

func TestOpen(t *testing.T) {
	r := fresh(t, 20)
	at := place(r, 0)
	is(t, "Fill", r.Fill(at+32, 100, 'x'), api.OK)
	for _, size := range []int{32, 33, 64, 132} {
		for _, owner := range []uint64{1, 2, 1 << 32, math.MaxUint64} {
			for _, front := range []int{32, 33, 1024, 4095, 4096} {
				same(t, r.Arena, "Open", func() {
					g, e := Open(r, of(t, r.Arena, at, size), owner, front)
					is(t, "Open", e, api.OK)
					tells(t, g)
					in(t, g)
					if g.Owner() != owner || g.Recycler != r || g.Held() != 0 || g.Size() != 0 {
						t.Errorf("its owner is %d, wanted %d", g.Owner(), owner)
					}
				})
			}
			g, _ := Open(r, of(t, r.Arena, at, size), owner, 32)
			x := alloc(t, g, 5, 1)
			alloc(t, g, 9000, 1)
			if c, _ := g.Newest(); c.Owner != owner {
				t.Errorf("the owner of %v isn't %d", c, owner)
			}
			g.Hold(64)
			g.Empty()
			holds(t, g, at+32, strings.Repeat("x", 100))
			in(t, g, x-48)
			if g.Clear() != 1 {
				t.Error("it isn't cleared")
			}
			holds(t, g, at, strings.Repeat("\x00", 32))
		}
	}
}

func TestOpenRefuses(t *testing.T) {
	r := fresh(t, 20)
	v := of(t, r.Arena, place(r, 0), 32)
	none := func(what string, r *recycler.Recycler, v view.View, owner uint64, front int, wanted api.Errno) {
		t.Helper()
		if g, e := Open(r, v, owner, front); g != (Region{}) || e != wanted {
			t.Fatalf("Open, %s: %v, error %d, wanted %d", what, g, e, wanted)
		}
	}
	same(t, r.Arena, "Open", func() {
		for _, owner := range []uint64{0, 1} {
			for _, front := range append(far, 0, 31, 32, 4096, 4097) {
				none("of nothing", nil, view.View{}, owner, front, api.ErrNil)
				none("of no recycler", nil, v, owner, front, api.ErrNil)
				none("of no recycler, nor room", nil, of(t, r.Arena, place(r, 0), 31), owner, front, api.ErrNil)
				none("of the zero view", r, view.View{}, owner, front, api.ErrNil)
				for size := range 32 {
					none("without room", r, of(t, r.Arena, place(r, 0), size), owner, front, api.ErrRange)
				}
			}
		}
		for _, front := range append(far, 0, 1, 8, 16, 30, 31, 4097, 4128, 8192) {
			none("of such a front", r, v, 1, front, api.ErrArg)
			none("of such a front, and nobody", r, v, 0, front, api.ErrArg)
		}
		for _, front := range []int{32, 33, 1024, 4096} {
			none("of nobody", r, v, 0, front, api.ErrArg)
		}
	})
	a := arena.New(1)
	is(t, "Commit", a.Commit(0, 1), api.OK)
	gone := of(t, a, 0, 32)
	is(t, "Decommit", a.Decommit(0, 1), api.OK)
	none("of bytes that aren't there any more", r, gone, 1, 32, api.ErrRange)
}

func TestTheZeroRegion(t *testing.T) {
	var g Region
	if last, some := g.Last(); last != (object.Object{}) || some || len(g.Objects()) != 0 || g.Used() != 0 || g.Mark() != 0 || g.Held() != 0 {
		t.Errorf("it tells %v, %t, %v, %d, %d", last, some, g.Objects(), g.Used(), g.Held())
	}
	for _, n := range append(far, 0, 1, 8, 4096) {
		for _, align := range append(odd, 1, 8, 64) {
			if at, e := g.Alloc(n, align); at != 0 || e != api.ErrNil {
				t.Errorf("Alloc: %d, error %d", at, e)
			}
			if at, e := g.Resize(n, align); at != 0 || e != api.ErrNil {
				t.Errorf("Resize: %d, error %d", at, e)
			}
		}
		is(t, "Free", g.Free(n), api.ErrNil)
		is(t, "Release", g.Release(n), api.ErrNil)
		g.Hold(n)
		g.Empty()
		if g.Held() != 0 {
			t.Errorf("it is held for %d", g.Held())
		}
	}
	if g != (Region{}) || g.Owner() != 0 || len(g.Chunks()) != 0 || g.Clear() != 0 {
		t.Errorf("it tells %v", g)
	}
}

func TestItStandsInTheArenaAlone(t *testing.T) {
	r := fresh(t, 20)
	g := open(t, r, 0, 64)
	x := alloc(t, g, 100, 16)
	fill(t, g, x, 'x')
	y := alloc(t, g, 5000, 1)
	fill(t, g, y, 'y')
	g.Hold(16)
	chunks := g.Chunks()
	all := g.Objects()
	for _, h := range []Region{open(t, r, 0, 64), open(t, anew(t, r.Arena), 0, 64), open(t, anew(t, r.Clone()), 0, 64)} {
		tells(t, h, all...)
		if h.Held() != 16 || h.Used() != 5100 || !slices.Equal(h.Chunks(), chunks) {
			t.Errorf("it is held for %d", h.Held())
		}
		holds(t, h, x, strings.Repeat("x", 100))
		holds(t, h, y, strings.Repeat("y", 5000))
	}
	twin := open(t, anew(t, r.Clone()), 0, 64)
	twin.Empty()
	tells(t, g, all...)
	h := open(t, r, 0, 64)
	h.Hold(0)
	z := alloc(t, h, 3, 1)
	tells(t, g, append([]object.Object{{At: z, Size: 3, Prev: y}}, all...)...)
	if g.Held() != 0 {
		t.Error("what is asked of one of them doesn't change what the other one tells")
	}
}

func TestLastObjectsUsed(t *testing.T) {
	g := open(t, fresh(t, 40), 0, 32)
	same(t, g.Arena, "what is asked", func() { tells(t, g) })
	x := alloc(t, g, 10, 1)
	y := alloc(t, g, 0, 1)
	z := alloc(t, g, 4096, 8)
	same(t, g.Arena, "what is asked", func() {
		tells(t, g, object.Object{At: z, Size: 4096, Prev: y}, object.Object{At: y, Prev: x}, object.Object{At: x, Size: 10})
	})
	g.Objects()[0] = object.Object{}
	tells(t, g, object.Object{At: z, Size: 4096, Prev: y}, object.Object{At: y, Prev: x}, object.Object{At: x, Size: 10})
	if g.Used() != 4106 {
		t.Errorf("used are %d", g.Used())
	}
}

func TestHold(t *testing.T) {
	r := fresh(t, 20)
	g, other := open(t, r, 0, 32), open(t, r, 1, 32)
	for _, objects := range []int{0, 1} {
		for _, align := range append(odd, 1, 2, 8, 64) {
			g.Hold(align)
			if g.Held() != align || other.Held() != 0 || open(t, r, 0, 32).Held() != align {
				t.Errorf("it is held for %d, wanted %d", g.Held(), align)
			}
		}
		g.Hold(0)
		if len(g.Objects()) != objects || len(g.Chunks()) != objects {
			t.Errorf("it tells %v", g.Objects())
		}
		if objects == 0 {
			alloc(t, g, 1, 1)
		}
	}
}

func TestItsChainAnswers(t *testing.T) {
	r := fresh(t, 20)
	g := open(t, r, 0, 32)
	alloc(t, g, 1, 1)
	alloc(t, g, 5000, 1)
	if g.Size() != 3*api.Page || g.Owner() != 1 || len(g.Chunks()) != 2 || g.Keeps() != 16 || g.Cached() != 0 || g.Grown() != r.Grown() || g.Cap() != 22 {
		t.Errorf("its chunks are %v", g.Chunks())
	}
}

// P15.2

func TestAllocEachAlignment(t *testing.T) {
	for align := 1; align <= 64; align *= 2 {
		r := fresh(t, 40)
		g := open(t, r, 0, 32)
		end, in := 0, 0
		for i := range 300 {
			n := i * 7 % 61
			at := alloc(t, g, n, align)
			least := end
			if c := newest(t, g); c != in {
				least, in = c+32, c
			}
			// The least multiple behind a header of its own.
			if at < least+16 || at-align >= least+16 {
				t.Fatalf("Alloc(%d, %d): %d, behind %d", n, align, at, least)
			}
			end = at + n
		}
	}
}

func TestAllocBehindTheFront(t *testing.T) {
	for _, k := range []struct{ front, n, align, at, order int }{
		{32, 0, 1, 48, 0}, {33, 0, 1, 49, 0}, {33, 1, 16, 64, 0}, {1024, 1, 1, 1040, 0}, {1024, 3056, 16, 1040, 0}, {1024, 3057, 16, 1040, 1},
		{4079, 1, 1, 4095, 0}, {4079, 0, 1, 4095, 0}, {4080, 0, 1, 4096, 0}, {4080, 1, 1, 4096, 1}, {4080, 0, 64, 4096, 0},
		{4081, 0, 1, 4097, 1}, {4095, 1, 8, 4112, 1}, {4096, 0, 1, 4112, 1}, {4096, 4080, 16, 4112, 1}, {4096, 4081, 16, 4112, 2}, {4096, 4080, 64, 4160, 2},
	} {
		g := open(t, fresh(t, 40), 0, k.front)
		at := alloc(t, g, k.n, k.align)
		if c, _ := g.Newest(); at != c.At+k.at || c.Order != k.order || len(g.Chunks()) != 1 {
			t.Errorf("of the front %d Alloc(%d, %d) is at %d in %v", k.front, k.n, k.align, at-c.At, c)
		}
		// When it is gone again the front bytes are left out, too.
		is(t, "Free", g.Free(at), api.OK)
		if again := alloc(t, g, k.n, k.align); again != at {
			t.Errorf("of the front %d Alloc(%d, %d) is at %d, then at %d", k.front, k.n, k.align, at, again)
		}
	}
}

// Where a chunk is there, but without room behind its front bytes, a new one's first bytes are its header alone.
func TestAllocBehindTheHeader(t *testing.T) {
	g := open(t, fresh(t, 40), 0, 4096)
	x := alloc(t, g, 0, 1)
	is(t, "Free", g.Free(x), api.OK)
	y := alloc(t, g, 4080, 16)
	if y != x || len(g.Chunks()) != 1 {
		t.Errorf("it is at %d, in %v", y, g.Chunks())
	}
	is(t, "Free", g.Free(y), api.OK)
	z := alloc(t, g, 4081, 16)
	if c, _ := g.Newest(); z != c.At+48 || c.Order != 1 || len(g.Chunks()) != 2 {
		t.Errorf("it is at %d, in %v", z, g.Chunks())
	}
	// The oldest chunk isn't the newest one any more: nothing more stands in it.
	w := alloc(t, g, 4000, 16)
	if c, _ := g.Newest(); w != z+4112 || c.At != z-48 {
		t.Errorf("it is at %d, in %v", w, g.Chunks())
	}
}

func TestAllocFillsAChunk(t *testing.T) {
	g := open(t, fresh(t, 40), 0, 32)
	x := alloc(t, g, 4000, 16)
	c := newest(t, g)
	// From 48 + 4000 on 48 bytes are left.
	if y := alloc(t, g, 32, 16); y != x+4016 {
		t.Errorf("it is at %d", y-c)
	}
	in(t, g, c)
	y := alloc(t, g, 0, 1)
	if y != newest(t, g)+48 || len(g.Chunks()) != 2 {
		t.Errorf("behind a full chunk it is at %d in %v", y, g.Chunks())
	}
	is(t, "Free", g.Free(x), api.OK)
	in(t, g, c)
	alloc(t, g, 4000, 16)
	if z := alloc(t, g, 33, 16); z != newest(t, g)+48 || len(g.Chunks()) != 2 {
		t.Errorf("what doesn't fit is at %d in %v", z, g.Chunks())
	}
	is(t, "Free", g.Free(x), api.OK)
	alloc(t, g, 4032, 16)
	if z := alloc(t, g, 0, 1); z != c+4096 {
		t.Errorf("what has no bytes is at %d, wanted the chunk's end", z-c)
	}
	in(t, g, c)
	if z := alloc(t, g, 0, 1); z == c+4112 || len(g.Chunks()) != 2 {
		t.Errorf("behind the chunk's end it is at %d in %v", z, g.Chunks())
	}
}

func TestAllocTakesTheLeastOrder(t *testing.T) {
	r := fresh(t, 6000)
	g := open(t, r, 0, 32)
	for order := range api.MaxOrder + 1 {
		most := api.Page<<order - 48
		x := alloc(t, g, most, 16)
		y := alloc(t, g, most-15, 1)
		for i, c := range g.Chunks()[:2] {
			if at := []int{y, x}[i]; c.Order != order || at != c.At+48 {
				t.Errorf("of %d bytes one is at %d in %v", most, at-c.At, c)
			}
		}
		g.Empty()
		g.Clear()
		r.Trim()
	}
	for _, k := range []struct{ n, align, order int }{{4049, 16, 1}, {4048, 32, 1}, {4032, 32, 0}, {4033, 32, 1}, {4032, 64, 0}, {4033, 64, 1}, {8145, 1, 2}, {16336, 8, 2}} {
		alloc(t, g, k.n, k.align)
		if c, _ := g.Newest(); c.Order != k.order {
			t.Errorf("Alloc(%d, %d) is in %v", k.n, k.align, c)
		}
		g.Empty()
		g.Clear()
		r.Trim()
	}
}

// What the recycler has kept is taken first, though it be greater; what stood in it isn't seen.
func TestAllocInKeptChunks(t *testing.T) {
	r := fresh(t, 60)
	g := open(t, r, 0, 32)
	junk(t, r, 3, 1, 0)
	kept := [][]int{r.Bins().All(0), r.Bins().All(1), r.Bins().All(3)}
	for i, orders := range []int{0, 1, 3} {
		at := alloc(t, g, 4000, 16)
		c, _ := g.Newest()
		if c.At != kept[i][0] || c.Order != orders || at != c.At+48 {
			t.Fatalf("it is at %d in %v", at, c)
		}
		// The rest of the chunk is filled up.
		for c.Order > 0 && at+4016 <= c.End() {
			at += 4016
			if at+4000 > c.End() {
				break
			}
			if next := alloc(t, g, 4000, 16); next != at {
				t.Fatalf("behind that it is at %d, wanted %d", next, at)
			}
		}
	}
	if len(g.Chunks()) != 3 || r.Cached() != 0 {
		t.Errorf("its chunks are %v, cached %d", g.Chunks(), r.Cached())
	}
}

func TestAllocNoughtsWhereOthersStood(t *testing.T) {
	g := open(t, fresh(t, 20), 0, 32)
	for range 5 {
		x := alloc(t, g, 1000, 1)
		y := alloc(t, g, 3000, 64)
		z := alloc(t, g, 20, 8)
		for _, at := range []int{x, y, z} {
			fill(t, g, at, 'x')
		}
		is(t, "Free", g.Free(x), api.OK)
	}
}

func TestAllocRefuses(t *testing.T) {
	r := fresh(t, 6)
	g := open(t, r, 0, 32)
	for _, objects := range []int{0, 1, 2} {
		for _, n := range append(far, 0, 1, 4048, 5000, 40000) {
			for _, align := range odd {
				refused(t, g, n, align, api.ErrArg)
			}
			for align := 1; n < 0 && align <= 64; align *= 2 {
				refused(t, g, n, align, api.ErrArg)
			}
		}
		for align := 1; align <= 64; align *= 2 {
			first := (48 + align - 1) / align * align
			for _, n := range []int{4<<20 - first + 1, 4 << 20, 4<<20 + 1, 1 << 31, api.Most, math.MaxInt - 64, math.MaxInt} {
				refused(t, g, n, align, api.ErrArg)
			}
			refused(t, g, 4<<20-first, align, api.ErrNoMemory)
			refused(t, g, 5*4096, align, api.ErrNoMemory)
		}
		if objects < 2 {
			alloc(t, g, 2000, 1)
			alloc(t, g, 2000, 1)
		}
	}
	// Each chunk that is left has room for one more.
	all := len(g.Objects())
	for e := api.OK; e == api.OK; all++ {
		_, e = g.Alloc(4000, 1)
	}
	refused(t, g, 4000, 1, api.ErrNoMemory)
	refused(t, g, 4000, 3, api.ErrArg)
	refused(t, g, 4<<20, 1, api.ErrArg)
	if census.Count(r.Buddy, census.Free) != 0 || len(g.Objects()) != all-1 {
		t.Errorf("there are %d objects, wanted %d", len(g.Objects()), all-1)
	}
}

// No order has room behind the front bytes, but one has behind a header.
func TestAllocTooGreatBehindTheFront(t *testing.T) {
	g := open(t, fresh(t, 5000), 0, 4096)
	const most = 4<<20 - 4112
	refused(t, g, most+1, 1, api.ErrArg)
	refused(t, g, 4<<20-48, 16, api.ErrArg)
	at := alloc(t, g, most, 1)
	if c, _ := g.Newest(); at != c.At+4112 || c.Order != 10 {
		t.Errorf("it is at %d in %v", at, c)
	}
	at = alloc(t, g, 4<<20-48, 16)
	if c, _ := g.Newest(); at != c.At+48 || c.Order != 10 || len(g.Chunks()) != 2 {
		t.Errorf("it is at %d in %v", at, c)
	}
	refused(t, g, 4<<20-47, 16, api.ErrArg)
}

func TestAllocWhileHeld(t *testing.T) {
	r := fresh(t, 6)
	g := open(t, r, 0, 32)
	for range 2 {
		for _, align := range []int{1, 8, 64, 3, -1, math.MinInt} {
			g.Hold(align)
			for _, n := range append(far, 0, 1, 4048, 4<<20) {
				for _, align := range []int{0, 1, 3, 64} {
					refused(t, g, n, align, api.ErrOpen)
				}
			}
		}
		g.Hold(0)
		alloc(t, g, 10, 1)
	}
}

// A commit that is refused is no memory; it is asked for again, and there is.
func TestAllocWhereACommitIsRefused(t *testing.T) {
	r := fresh(t, 6)
	g := open(t, r, 0, 32)
	for range 2 {
		r.Refuse(0)
		if at, e := g.Alloc(4000, 1); at != 0 || e != api.ErrNoMemory {
			t.Errorf("Alloc: %d, error %d", at, e)
		}
		alloc(t, g, 4000, 1)
	}
}

// P15.3

func TestFree(t *testing.T) {
	g := open(t, fresh(t, 40), 0, 32)
	var all []int
	for i := range 10 {
		all = append(all, alloc(t, g, i, 8))
	}
	for _, k := range []int{9, 7, 6, 2, 1, 0} {
		before := g.Objects()
		is(t, "Free", g.Free(all[k]), api.OK)
		i := slices.IndexFunc(before, func(o object.Object) bool { return o.At == all[k] })
		tells(t, g, before[i+1:]...)
		for _, at := range all[k:] {
			is(t, "Free", g.Free(at), api.ErrNone)
		}
	}
	tells(t, g)
	if len(g.Chunks()) != 1 {
		t.Errorf("its chunks are %v", g.Chunks())
	}
	if at := alloc(t, g, 0, 8); at != all[0] {
		t.Errorf("the first one is at %d, then at %d", all[0], at)
	}
}

// wanderer: objects in four chunks: two in the oldest one, one each in the next ones, two in the newest.
func wanderer(t *testing.T, pages int) (Region, []int) {
	t.Helper()
	g := open(t, fresh(t, pages), 0, 32)
	all := []int{alloc(t, g, 100, 8), alloc(t, g, 3000, 8), alloc(t, g, 4000, 8), alloc(t, g, 5000, 8), alloc(t, g, 2000, 8), alloc(t, g, 6000, 8), alloc(t, g, 7000, 8)}
	var chunks []int
	for _, i := range []int{6, 5, 3, 2, 0} {
		chunks = append(chunks, all[i]-48)
	}
	in(t, g, chunks...)
	for i, at := range all {
		fill(t, g, at, byte('a'+i))
	}
	return g, all
}

func TestFreeGivesChunksBack(t *testing.T) {
	for k, left := range [][]int{{0}, {0}, {0}, {2, 0}, {3, 2, 0}, {3, 2, 0}, {5, 3, 2, 0}} {
		for way := range 3 {
			g, all := wanderer(t, 60)
			before, chunks := g.Objects(), g.Chunks()
			switch way {
			case 0:
				is(t, "Free", g.Free(all[k]), api.OK)
			case 1:
				is(t, "Release", g.Release(append([]int{0}, all...)[k]), api.OK)
			default:
				g.Recycler.Keep(0)
				is(t, "Free", g.Free(all[k]), api.OK)
			}
			tells(t, g, before[len(all)-k:]...)
			var wanted []int
			for _, i := range left {
				wanted = append(wanted, all[i]-48)
			}
			in(t, g, wanted...)
			back := 0
			for _, c := range chunks[:len(chunks)-len(left)] {
				back += 1 << c.Order
			}
			if way < 2 && g.Cached() != back || way == 2 && g.Cached() != 0 {
				t.Errorf("cached are %d pages, wanted %d", g.Cached(), back)
			}
			for i, at := range all[:k] {
				o, _ := object.Read(g.Arena, at)
				holds(t, g, at, strings.Repeat(string(rune('a'+i)), o.Size))
			}
		}
	}
}

// The newest chunk is given back first, so it is the one that is taken again last.
func TestFreeGivesTheNewestBackFirst(t *testing.T) {
	g := open(t, fresh(t, 40), 0, 32)
	var all []int
	for range 5 {
		all = append(all, alloc(t, g, 4000, 8)-48)
	}
	is(t, "Free", g.Free(all[1]+48), api.OK)
	if got := g.Bins().All(0); !slices.Equal(got, all[1:]) {
		t.Errorf("cached are %v, wanted %v", got, all[1:])
	}
}

func TestFreeRefuses(t *testing.T) {
	g, all := wanderer(t, 60)
	other := open(t, g.Recycler, 1, 32)
	alien := alloc(t, other, 10, 8)
	wrong := append(far, 0, 1, 16, 4096, alien, 60*4096, 70*4096)
	for _, at := range all {
		wrong = append(wrong, at-48, at-16, at-1, at+1, at+16)
	}
	same(t, g.Arena, "what is refused", func() {
		for _, at := range wrong {
			is(t, "Free", g.Free(at), api.ErrNone)
			if at != 0 {
				is(t, "Release", g.Release(at), api.ErrNone)
			}
		}
	})
	for _, align := range []int{1, 8, 64, 3, -1} {
		g.Hold(align)
		same(t, g.Arena, "what is refused", func() {
			for _, at := range append(wrong, all...) {
				is(t, "Free", g.Free(at), api.ErrOpen)
				is(t, "Release", g.Release(at), api.ErrOpen)
			}
		})
	}
	g.Hold(0)
	g.Empty()
	same(t, g.Arena, "what is refused", func() {
		for _, at := range append(wrong, all...) {
			is(t, "Free", g.Free(at), api.ErrNone)
			if at != 0 {
				is(t, "Release", g.Release(at), api.ErrNone)
			}
		}
		is(t, "Release", g.Release(0), api.OK)
	})
	g.Hold(8)
	is(t, "Free", g.Free(all[0]), api.ErrOpen)
	is(t, "Release", g.Release(0), api.ErrOpen)
}

func TestMarkAndRelease(t *testing.T) {
	g := open(t, fresh(t, 40), 0, 32)
	if g.Mark() != 0 {
		t.Errorf("of a region without objects the mark is %d", g.Mark())
	}
	same(t, g.Arena, "Release of nothing", func() { is(t, "Release", g.Release(0), api.OK) })
	x := alloc(t, g, 3000, 8)
	fill(t, g, x, 'x')
	mark := g.Mark()
	same(t, g.Arena, "Release of nothing", func() { is(t, "Release", g.Release(mark), api.OK) })
	all, chunks := g.Objects(), g.Chunks()
	for _, n := range []int{0, 10, 500, 3000, 9000} {
		y := alloc(t, g, n, 8)
		second := g.Mark()
		alloc(t, g, n, 8)
		is(t, "Release", g.Release(second), api.OK)
		if g.Mark() != y {
			t.Errorf("the mark is %d, wanted %d", g.Mark(), y)
		}
		is(t, "Release", g.Release(mark), api.OK)
		is(t, "Release", g.Release(second), api.ErrNone)
		tells(t, g, all...)
		holds(t, g, x, strings.Repeat("x", 3000))
		if !slices.Equal(g.Chunks(), chunks) {
			t.Errorf("its chunks are %v, wanted %v", g.Chunks(), chunks)
		}
		if again := alloc(t, g, n, 8); again != y {
			t.Errorf("it is at %d, then at %d", y, again)
		}
		is(t, "Release", g.Release(mark), api.OK)
	}
	is(t, "Release", g.Release(0), api.OK)
	tells(t, g)
	if !slices.Equal(g.Chunks(), chunks) {
		t.Errorf("its chunks are %v, wanted %v", g.Chunks(), chunks)
	}
	is(t, "Release", g.Release(mark), api.ErrNone)
}

// At the end of a chunk an object without bytes stands in that chunk, though another chunk begins there.
func TestFreeBehindAChunksEnd(t *testing.T) {
	g := open(t, fresh(t, 40), 0, 32)
	alloc(t, g, 10, 1)
	c := newest(t, g)
	alloc(t, g, 4096-48-10-16-16, 1)
	if y := alloc(t, g, 0, 1); y != c+4096 {
		t.Fatalf("it is at %d, not at the chunk's end", y-c)
	}
	mark := g.Mark()
	alloc(t, g, 4000, 1)
	if newest(t, g) != c+4096 {
		t.Fatalf("the chunks are at %d and %d", c, newest(t, g))
	}
	alloc(t, g, 4000, 1)
	is(t, "Release", g.Release(mark), api.OK)
	in(t, g, c)
}

func TestEmpty(t *testing.T) {
	for _, align := range []int{0, 1, 8, -1} {
		g, all := wanderer(t, 60)
		g.Hold(align)
		g.Empty()
		tells(t, g)
		in(t, g, all[0]-48)
		if g.Held() != 0 {
			t.Errorf("it is held for %d", g.Held())
		}
		same(t, g.Arena, "Empty of what is empty", g.Empty)
		if at := alloc(t, g, 1, 1); at != all[0] {
			t.Errorf("the first one is at %d, wanted %d", at, all[0])
		}
	}
	g := open(t, fresh(t, 5), 0, 32)
	same(t, g.Arena, "Empty of a new one", g.Empty)
	g.Hold(8)
	g.Empty()
	if g.Held() != 0 || len(g.Chunks()) != 0 {
		t.Errorf("it is held for %d", g.Held())
	}
}

// P15.4

func TestResizeWhereItStands(t *testing.T) {
	g := open(t, fresh(t, 20), 0, 32)
	first := alloc(t, g, 100, 1)
	fill(t, g, first, 'f')
	at := alloc(t, g, 10, 16)
	fill(t, g, at, 'x')
	c := newest(t, g)
	most := c + 4096 - at
	for _, n := range []int{10, 11, 5, 5, 0, 1, 7, most, 3, most - 1, most, 0, 20} {
		for _, align := range []int{1, 2, 8, 16} {
			if to := resize(t, g, n, align); to != at {
				t.Fatalf("Resize(%d): it is at %d, wanted %d", n, to, at)
			}
			in(t, g, c)
			holds(t, g, first, strings.Repeat("f", 100))
		}
		fill(t, g, at, byte(n))
	}
	// Behind it is where its bytes end then.
	if next := alloc(t, g, 1, 1); next != at+20+16 {
		t.Errorf("behind it one is at %d, wanted %d", next, at+20+16)
	}
}

// What is gone by shrinking doesn't come back by growing.
func TestResizeForgets(t *testing.T) {
	g := open(t, fresh(t, 20), 0, 32)
	at := alloc(t, g, 100, 1)
	fill(t, g, at, 'x')
	resize(t, g, 40, 1)
	resize(t, g, 80, 1)
	holds(t, g, at, strings.Repeat("x", 40)+strings.Repeat("\x00", 40))
	resize(t, g, 0, 1)
	resize(t, g, 100, 1)
	holds(t, g, at, strings.Repeat("\x00", 100))
}

func TestResizeToANewChunk(t *testing.T) {
	r := fresh(t, 60)
	g := open(t, r, 0, 1024)
	junk(t, r, 1, 3)
	first := alloc(t, g, 100, 1)
	oldest := newest(t, g)
	fill(t, g, first, 'f')
	x := alloc(t, g, 1000, 8)
	fill(t, g, x, 'x')
	end, _ := g.Newest()
	// Where it stands there is room up to the chunk's end; one byte more, and it stands behind a header, whatever the front.
	if y := resize(t, g, end.End()-x, 8); y != x {
		t.Fatalf("it is at %d, wanted %d", y, x)
	}
	y := resize(t, g, end.End()-x+1, 8)
	c, _ := g.Newest()
	if y != c.At+48 {
		t.Errorf("it is at %d in %v", y, c)
	}
	in(t, g, c.At, oldest)
	holds(t, g, first, strings.Repeat("f", 100))
	// In that one it stands alone, and it isn't the oldest one: it is given back.
	fill(t, g, y, 'y')
	z := resize(t, g, c.End()-y+1, 8)
	d, _ := g.Newest()
	if z != d.At+48 || d.At == c.At {
		t.Errorf("it is at %d in %v", z, d)
	}
	in(t, g, d.At, oldest)
	if !slices.Contains(r.Bins().All(c.Order), c.At) {
		t.Errorf("%v isn't cached", c)
	}
	// Back to a mark all is as it was.
	is(t, "Release", g.Release(first), api.OK)
	in(t, g, oldest)
	tells(t, g, object.Object{At: first, Size: 100})
	holds(t, g, first, strings.Repeat("f", 100))
}

// The oldest chunk stays, though nothing stands in it any more.
func TestResizeOutOfTheOldestChunk(t *testing.T) {
	g := open(t, fresh(t, 60), 0, 1024)
	x := alloc(t, g, 10, 1)
	fill(t, g, x, 'x')
	oldest := newest(t, g)
	y := resize(t, g, 4048, 16)
	c, _ := g.Newest()
	if y != c.At+48 || c.Order != 0 || c.At == oldest {
		t.Errorf("it is at %d in %v", y, c)
	}
	in(t, g, c.At, oldest)
	z := alloc(t, g, 0, 1)
	d := newest(t, g)
	in(t, g, d, c.At, oldest)
	tells(t, g, object.Object{At: z, Prev: y}, object.Object{At: y, Size: 4048})
	is(t, "Free", g.Free(z), api.OK)
	in(t, g, c.At, oldest)
	is(t, "Free", g.Free(y), api.OK)
	in(t, g, oldest)
	if again := alloc(t, g, 10, 1); again != x {
		t.Errorf("the first one is at %d, then at %d", x, again)
	}
}

// A chunk stays in which another object stands, one without bytes at its end, too.
func TestResizeOutOfAChunkWithOthers(t *testing.T) {
	g := open(t, fresh(t, 60), 0, 32)
	alloc(t, g, 4048, 16)
	oldest := newest(t, g)
	alloc(t, g, 0, 64)
	second := newest(t, g)
	two := alloc(t, g, 10, 1)
	if newest(t, g) != second || second == oldest {
		t.Fatalf("its chunks are %v", g.Chunks())
	}
	three := resize(t, g, 5000, 1)
	third := newest(t, g)
	in(t, g, third, second, oldest)
	is(t, "Free", g.Free(three), api.OK)
	in(t, g, second, oldest)
	if again := alloc(t, g, 10, 1); again != two {
		t.Errorf("it is at %d, then at %d", two, again)
	}
}

// The one ahead stands at the end of the chunk ahead, where the chunk of the last one begins: that has no other object.
func TestResizeBehindAChunksEnd(t *testing.T) {
	r := fresh(t, 60)
	_, e := r.Take(0, 99) // so that the next runs lie side by side
	is(t, "Take", e, api.OK)
	g := open(t, r, 0, 32)
	alloc(t, g, 8144, 16)
	oldest := newest(t, g)
	resize(t, g, 8128, 16)
	if end := alloc(t, g, 0, 1); end != oldest+8192 {
		t.Errorf("it is at %d, not at the chunk's end", end-oldest)
	}
	alloc(t, g, 4000, 16)
	if newest(t, g) != oldest+8192 {
		t.Errorf("the chunks are at %d and %d", oldest, newest(t, g))
	}
	resize(t, g, 4049, 16)
	in(t, g, newest(t, g), oldest)
	if newest(t, g) == oldest+8192 {
		t.Errorf("it stands where it stood")
	}
}

// Of a chunk that was joined to the chain, the last object's own one is not the newest.
func TestResizeBehindAJoinedChunk(t *testing.T) {
	g := open(t, fresh(t, 60), 0, 1024)
	first := alloc(t, g, 100, 1)
	oldest := newest(t, g)
	last := alloc(t, g, 4000, 16)
	own := newest(t, g)
	is(t, "join", join(g, 2), api.OK)
	joined := newest(t, g)
	// Where it stands there is room up to the end of its own chunk.
	if to := resize(t, g, 4048, 16); to != last {
		t.Errorf("it is at %d, wanted %d", to, last)
	}
	in(t, g, joined, own, oldest)
	// Its own chunk, in the chain's midst, is given back; the joined one stays.
	to := resize(t, g, 4049, 16)
	in(t, g, to-48, joined, oldest)
	if !slices.Equal(g.Bins().All(0), []int{own}) {
		t.Errorf("cached are %v, wanted %d", g.Bins().All(0), own)
	}
	is(t, "Free", g.Free(to), api.OK)
	in(t, g, oldest)
	// The next one stands in the newest chunk, whatever room the last one's has.
	is(t, "join", join(g, 0), api.OK)
	joined = newest(t, g)
	if at := alloc(t, g, 10, 8); at != joined+48 {
		t.Errorf("it is at %d, wanted %d", at, joined+48)
	}
	is(t, "Release", g.Release(first), api.OK)
	in(t, g, oldest)
}

func TestResizeTakesTheLeastOrder(t *testing.T) {
	for order := range api.MaxOrder {
		g := open(t, fresh(t, 5000), 0, 32)
		at := alloc(t, g, api.Page<<order-48, 16)
		fill(t, g, at, 'x')
		to := resize(t, g, api.Page<<order-47, 16)
		if c, _ := g.Newest(); c.Order != order+1 || to != c.At+48 {
			t.Errorf("it is at %d in %v", to, c)
		}
		to = resize(t, g, api.Page<<(order+1)-48, 16)
		if c, _ := g.Newest(); c.Order != order+1 || to != c.At+48 {
			t.Errorf("it is at %d in %v", to, c)
		}
	}
	g := open(t, fresh(t, 5000), 0, 32)
	at := alloc(t, g, 0, 64)
	if c, _ := g.Newest(); at != c.At+64 {
		t.Errorf("it is at %d in %v", at, c)
	}
	to := resize(t, g, 4033, 64)
	if c, _ := g.Newest(); c.Order != 1 || to != c.At+64 {
		t.Errorf("it is at %d in %v", to, c)
	}
	// Of a lesser alignment it stands nearer to the header.
	to = resize(t, g, 8193-64, 1)
	if c, _ := g.Newest(); c.Order != 1 || to != c.At+48 {
		t.Errorf("it is at %d in %v", to, c)
	}
}

func TestResizeWhileHeld(t *testing.T) {
	g := open(t, fresh(t, 60), 0, 32)
	alloc(t, g, 10, 8)
	g.Hold(8)
	for _, n := range []int{20, 5, 5000, 0, 20000} {
		resize(t, g, n, 8)
		if g.Held() != 8 {
			t.Errorf("it is held for %d", g.Held())
		}
	}
}

func TestResizeRefuses(t *testing.T) {
	r := fresh(t, 6)
	g := open(t, r, 0, 32)
	for range 2 {
		for _, n := range append(far, 0, 10) {
			for _, align := range append(odd, 1, 64) {
				stays(t, g, n, align, api.ErrEmpty)
			}
		}
		at := alloc(t, g, 0, 1)
		is(t, "Free", g.Free(at), api.OK)
	}
	alloc(t, g, 10, 64)
	at := alloc(t, g, 100, 1)
	for at%8 != 2 {
		at = alloc(t, g, 100, 1)
	}
	fill(t, g, at, 'x')
	for _, held := range []int{0, 1, 64, -1} {
		g.Hold(held)
		for _, n := range []int{0, 50, 100, 200, 4000, 5000, 4 << 20} {
			for _, align := range append(odd, 4, 8, 16, 32, 64) {
				stays(t, g, n, align, api.ErrArg)
			}
		}
		for _, n := range append(far, -100, -10) {
			for _, align := range append(odd, 1, 2, 4, 8, 16, 32, 64) {
				stays(t, g, n, align, api.ErrArg)
			}
		}
		for _, n := range []int{4<<20 - 47, 4 << 20, math.MaxInt - 100, math.MaxInt - 16} {
			stays(t, g, n, 2, api.ErrArg)
		}
		for _, n := range []int{4<<20 - 48, 1 << 20, 40000} {
			stays(t, g, n, 2, api.ErrNoMemory)
		}
	}
	holds(t, g, at, strings.Repeat("x", 100))
}

func TestResizeWhereACommitIsRefused(t *testing.T) {
	r := fresh(t, 20)
	g := open(t, r, 0, 32)
	at := alloc(t, g, 10, 8)
	fill(t, g, at, 'x')
	all, chunks := g.Objects(), g.Chunks()
	r.Refuse(0)
	// Where it stands no page is asked for.
	resize(t, g, 4000, 8)
	resize(t, g, 10, 8)
	if to, e := g.Resize(20000, 8); to != 0 || e != api.ErrNoMemory {
		t.Errorf("Resize: %d, error %d", to, e)
	}
	tells(t, g, all...)
	if !slices.Equal(g.Chunks(), chunks) {
		t.Errorf("its chunks are %v, wanted %v", g.Chunks(), chunks)
	}
	resize(t, g, 20000, 8)
}

// P15.5

// The view may lie in the oldest chunk's front bytes, as the region had it ahead.
func TestAViewInTheOldestChunk(t *testing.T) {
	r := fresh(t, 60)
	c, e := r.Take(0, 5)
	is(t, "Take", e, api.OK)
	is(t, "Fill", r.Fill(c.At+32, 4064, 0), api.OK)
	g, e := Open(r, of(t, r.Arena, c.At+200, 32), 5, 1024)
	is(t, "Open", e, api.OK)
	is(t, "Join", g.Join(c.At), api.OK)
	is(t, "Fill", r.Fill(c.At+32, 168, 'm'), api.OK)
	is(t, "Fill", r.Fill(c.At+232, 792, 'm'), api.OK)
	for range 3 {
		x := alloc(t, g, 1, 1)
		if x != c.At+1040 {
			t.Errorf("the first one is at %d", x-c.At)
		}
		y := alloc(t, g, 5000, 64)
		alloc(t, g, 100, 16)
		resize(t, g, 40000, 16)
		is(t, "Free", g.Free(y), api.OK)
		in(t, g, c.At)
		resize(t, g, 3056, 16)
		fill(t, g, x, 'x')
		resize(t, g, 3057, 16)
		g.Empty()
		in(t, g, c.At)
		holds(t, g, c.At+32, strings.Repeat("m", 168))
		holds(t, g, c.At+232, strings.Repeat("m", 792))
	}
	if g.Clear() != 1 {
		t.Error("Clear")
	}
}

// Two regions of one recycler are apart.
func TestTwoRegions(t *testing.T) {
	r := fresh(t, 60)
	g, h := open(t, r, 0, 32), open(t, r, 1, 64)
	for i := range 30 {
		x, y := alloc(t, g, 100*i, 8), alloc(t, h, 70*i, 16)
		fill(t, g, x, 'g')
		fill(t, h, y, 'h')
		if i%7 == 6 {
			is(t, "Free", g.Free(g.Objects()[3].At), api.OK)
		}
	}
	for _, o := range g.Objects() {
		holds(t, g, o.At, strings.Repeat("g", o.Size))
	}
	all := h.Objects()
	g.Empty()
	tells(t, h, all...)
	for _, o := range all {
		holds(t, h, o.At, strings.Repeat("h", o.Size))
	}
}
