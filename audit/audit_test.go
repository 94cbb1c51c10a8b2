package audit

import (
	"math"
	"slices"
	"strings"
	"testing"

	"millpond/api"
	"millpond/arena"
	"millpond/chunk"
	"millpond/node"
	"millpond/object"
	"millpond/pool"
	"millpond/refs"
)

// nobody: numbers that are no handle of any of these tests, and above those of what a page is.
var nobody = []api.Handle{5, 9, 255, 511, 512, 256 << 20, math.MaxUint64}

// is: a test ends, if an error is another one than was wanted.
func is(t *testing.T, what string, got, wanted api.Errno) {
	t.Helper()
	if got != wanted {
		t.Fatalf("%s: error %d, wanted %d", what, got, wanted)
	}
}

// fresh: a new forest, of an arena of so many pages.
func fresh(t *testing.T, cap int) *pool.Forest {
	t.Helper()
	f, e := pool.New(arena.New(cap))
	is(t, "pool.New", e, api.OK)
	return f
}

// one: a pool.
func one(t *testing.T, f *pool.Forest, parent api.Handle) api.Handle {
	t.Helper()
	h, e := f.Make(parent, pool.Pool, "p", 0)
	is(t, "Make", e, api.OK)
	return h
}

// bytes: a block.
func bytes(t *testing.T, f *pool.Forest, parent api.Handle, n int) api.Handle {
	t.Helper()
	h, e := f.Make(parent, pool.Block, "b", n)
	is(t, "Make", e, api.OK)
	return h
}

// of: the node of a handle.
func of(t *testing.T, f *pool.Forest, h api.Handle) node.Node {
	t.Helper()
	n, e := f.Node(h)
	is(t, "Node", e, api.OK)
	return n
}

// alloc: an object of a pool; its address.
func alloc(t *testing.T, f *pool.Forest, h api.Handle, size, align int) int {
	t.Helper()
	at, e := of(t, f, h).Alloc(size, align)
	is(t, "Alloc", e, api.OK)
	return at
}

// tie: a node refers to another one.
func tie(t *testing.T, f *pool.Forest, from, to api.Handle) {
	t.Helper()
	is(t, "Tie", refs.Tie(of(t, f, from), of(t, f, to), f.Serial()), api.OK)
}

// pages: is each page what is wanted: a number, and how many pages in a row are that? All numbers together are the others' count, too.
func pages(t *testing.T, f *pool.Forest, wanted ...[2]uint64) {
	t.Helper()
	var all []uint64
	counts := map[uint64]int{}
	for _, row := range wanted {
		all = append(all, slices.Repeat([]uint64{row[0]}, int(row[1]))...)
		counts[row[0]] += int(row[1])
	}
	same(t, f, "Pages", func() {
		t.Helper()
		if l := Pages(f); !slices.Equal(l, all) {
			t.Fatalf("the pages are %v, wanted %v", l, all)
		}
		for what := range uint64(600) {
			if n := Count(f, api.Handle(what)); n != counts[what] {
				t.Fatalf("%d pages are %d, wanted %d", n, what, counts[what])
			}
		}
	})
}

// spans: are these all, by which bytes are owned?
func spans(t *testing.T, f *pool.Forest, wanted ...Span) {
	t.Helper()
	same(t, f, "Spans", func() {
		t.Helper()
		if l := Spans(f); !slices.Equal(l, wanted) {
			t.Fatalf("the spans are %v, wanted %v", l, wanted)
		}
		for _, s := range wanted {
			if s.Size > 0 {
				owner(t, f, s.At, s.Handle)
				owner(t, f, s.At+s.Size-1, s.Handle)
			}
		}
	})
}

// owner: is the byte at an address in that node's object (0: in none)?
func owner(t *testing.T, f *pool.Forest, at int, wanted api.Handle) {
	t.Helper()
	if h, ok := Owner(f, at); h != wanted || ok != (wanted != 0) {
		t.Fatalf("the owner of %d is %d, %v, wanted %d", at, h, ok, wanted)
	}
}

// right: does all agree, and is nothing changed by asking?
func right(t *testing.T, f *pool.Forest) {
	t.Helper()
	same(t, f, "Right", func() {
		t.Helper()
		if !Right(f) {
			t.Fatal("it isn't right")
		}
	})
}

// same: a call changes nothing.
func same(t *testing.T, f *pool.Forest, what string, call func()) {
	t.Helper()
	before := whole(t, f)
	call()
	if whole(t, f) != before {
		t.Fatalf("%s changes something", what)
	}
}

// whole: all bytes that are committed, page by page.
func whole(t *testing.T, f *pool.Forest) string {
	t.Helper()
	var all strings.Builder
	for from, n := range f.Pages().Rows() {
		s, e := f.Bytes(from*api.Page, n*api.Page)
		is(t, "Bytes", e, api.OK)
		all.WriteString(s)
	}
	return all.String()
}

func TestExample(t *testing.T) {
	f := fresh(t, 20)
	pages(t, f, [2]uint64{Buddy, 1}, [2]uint64{Forest, 2}, [2]uint64{256, 1}, [2]uint64{Gone, 16})
	right(t, f)
}

// P30.1

func TestNumbers(t *testing.T) {
	if l := []uint64{Gone, Buddy, Free, Forest, Cached}; !slices.Equal(l, []uint64{0, 1, 2, 3, 4}) {
		t.Errorf("the numbers are %v", l)
	}
}

func TestPages(t *testing.T) {
	f := fresh(t, 20)
	a := one(t, f, 256)
	b := bytes(t, f, a, 5000)
	// Behind the ground's page the first run of order 1 begins at the fifth page, as runs do at multiples of their pages.
	pages(t, f, [2]uint64{Buddy, 1}, [2]uint64{Forest, 2}, [2]uint64{256, 1}, [2]uint64{257, 1}, [2]uint64{258, 1}, [2]uint64{Free, 1}, [2]uint64{258, 2}, [2]uint64{Gone, 11})
	is(t, "Remove", f.Remove(b), api.OK)
	pages(t, f, [2]uint64{Buddy, 1}, [2]uint64{Forest, 2}, [2]uint64{256, 1}, [2]uint64{257, 1}, [2]uint64{Cached, 1}, [2]uint64{Free, 1}, [2]uint64{Cached, 2}, [2]uint64{Gone, 11})
	// The chunk that is cached is another one's.
	c := one(t, f, a)
	if c != 514 {
		t.Fatalf("the handle is %d", c)
	}
	pages(t, f, [2]uint64{Buddy, 1}, [2]uint64{Forest, 2}, [2]uint64{256, 1}, [2]uint64{257, 1}, [2]uint64{514, 1}, [2]uint64{Free, 1}, [2]uint64{Cached, 2}, [2]uint64{Gone, 11})
	f.Trim()
	pages(t, f, [2]uint64{Buddy, 1}, [2]uint64{Forest, 2}, [2]uint64{256, 1}, [2]uint64{257, 1}, [2]uint64{514, 1}, [2]uint64{Free, 3}, [2]uint64{Gone, 11})
	f.Shrink()
	pages(t, f, [2]uint64{Buddy, 1}, [2]uint64{Forest, 2}, [2]uint64{256, 1}, [2]uint64{257, 1}, [2]uint64{514, 1}, [2]uint64{Gone, 14})
	right(t, f)
}

// Chunks of all orders, those that a region has taken for more objects, too; those above order 4 are never cached.
func TestPagesOfAllOrders(t *testing.T) {
	f := fresh(t, 4200)
	f.Keep(1000)
	for order := range api.MaxOrder + 1 {
		alloc(t, f, 256, api.Page<<order-48, 1)
	}
	if n := Count(f, 256); n != 1+2047 {
		t.Fatalf("the ground has %d pages", n)
	}
	for _, c := range of(t, f, 256).Chunks() {
		for i := range 1 << c.Order {
			if Pages(f)[c.At/api.Page+i] != 256 {
				t.Fatalf("page %d of the chunk %v isn't the ground's", i, c)
			}
		}
	}
	right(t, f)
	of(t, f, 256).Empty()
	if n, cached, free := Count(f, 256), Count(f, api.Handle(Cached)), Count(f, api.Handle(Free)); n != 1 || cached != 31 || cached != f.Cached() || free+cached+n+2 != f.Grown() {
		t.Fatalf("the ground has %d pages, %d are cached, %d free", n, cached, free)
	}
	right(t, f)
}

// A taken run that isn't a chunk is the forest's, and so is a chunk that no node owns; one that a node owns is that one's, be it in its chain or not.
func TestPagesOfOthers(t *testing.T) {
	f := fresh(t, 20)
	a := one(t, f, 256)
	_, e := f.Buddy.Alloc(1)
	is(t, "Alloc", e, api.OK)
	_, e = f.Take(1, uint64(a))
	is(t, "Take", e, api.OK)
	_, e = f.Take(0, 1000)
	is(t, "Take", e, api.OK)
	_, e = f.Take(0, Cached)
	is(t, "Take", e, api.OK)
	wanted := [][2]uint64{{Buddy, 1}, {Forest, 2}, {256, 1}, {257, 1}, {Forest, 2}, {257, 2}, {Forest, 2}, {Gone, 9}}
	pages(t, f, wanted...)
	right(t, f)
	// When the node is gone it is named by nothing.
	is(t, "Remove", f.Remove(a), api.OK)
	wanted[3], wanted[5] = [2]uint64{Cached, 1}, [2]uint64{Forest, 2}
	pages(t, f, wanted...)
	right(t, f)
}

// A joined chunk is the node's.
func TestPagesOfJoined(t *testing.T) {
	f := fresh(t, 20)
	a := one(t, f, 256)
	c, e := f.Take(1, uint64(a))
	is(t, "Take", e, api.OK)
	is(t, "Join", of(t, f, a).Join(c.At), api.OK)
	at := alloc(t, f, a, 8000, 8)
	pages(t, f, [2]uint64{Buddy, 1}, [2]uint64{Forest, 2}, [2]uint64{256, 1}, [2]uint64{257, 3}, [2]uint64{Gone, 13})
	spans(t, f, Span{a, at, 8000})
	right(t, f)
}

// Of a great arena each page is told, too; its buddy's own ones are many.
func TestPagesOfAGreatArena(t *testing.T) {
	f := fresh(t, api.MaxPages)
	all := Pages(f)
	if len(all) != api.MaxPages || Count(f, api.Handle(Gone)) != api.MaxPages-257-3 || Count(f, api.Handle(Buddy)) != 257 {
		t.Fatalf("of %d pages %d are gone", len(all), Count(f, api.Handle(Gone)))
	}
	if !slices.Equal(all[256:262], []uint64{Buddy, Forest, Forest, 256, Gone, Gone}) {
		t.Fatalf("the pages are %v", all[256:262])
	}
	right(t, f)
}

// As few pages as a forest may have.
func TestPagesOfASmallArena(t *testing.T) {
	f := fresh(t, 4)
	pages(t, f, [2]uint64{Buddy, 1}, [2]uint64{Forest, 2}, [2]uint64{256, 1})
	right(t, f)
}

// A cached chunk whose header says that it goes on behind the cap is cached as far as there are pages.
func TestPagesOfAWrongBin(t *testing.T) {
	f := fresh(t, 6)
	all := []api.Handle{one(t, f, 256), one(t, f, 256)}
	c := chunk.Chunk{At: of(t, f, all[1]).Where(), Order: 4}
	is(t, "Write", chunk.Write(f.Arena, c), api.OK)
	is(t, "Push", f.Bins().Push(c.At), api.OK)
	pages(t, f, [2]uint64{Buddy, 1}, [2]uint64{Forest, 2}, [2]uint64{256, 1}, [2]uint64{257, 1}, [2]uint64{Cached, 1})
	if Right(f) {
		t.Error("it is right")
	}
}

func TestCountOfNobody(t *testing.T) {
	f := fresh(t, 20)
	a := one(t, f, 256)
	is(t, "Remove", f.Remove(a), api.OK)
	for _, h := range append(nobody, a) {
		if n := Count(f, h); n != 0 {
			t.Errorf("%d has %d pages", h, n)
		}
	}
}

func TestNil(t *testing.T) {
	if l := Pages(nil); len(l) != 0 {
		t.Errorf("the pages are %v", l)
	}
	if l := Spans(nil); len(l) != 0 {
		t.Errorf("the spans are %v", l)
	}
	for _, h := range append(nobody, 0, 1, 2, 3, 4, 256) {
		if n := Count(nil, h); n != 0 {
			t.Errorf("%d has %d pages", h, n)
		}
		if who, ok := Owner(nil, int(h%1000)*256); who != 0 || ok {
			t.Errorf("the owner is %d, %v", who, ok)
		}
	}
	if Right(nil) {
		t.Error("nil is right")
	}
}

// An answer shares nothing with a later one.
func TestAnswersAreNew(t *testing.T) {
	f := fresh(t, 20)
	at := alloc(t, f, 256, 3, 1)
	Pages(f)[0] = 77
	Spans(f)[0].Size = 77
	pages(t, f, [2]uint64{Buddy, 1}, [2]uint64{Forest, 2}, [2]uint64{256, 1}, [2]uint64{Gone, 16})
	spans(t, f, Span{256, at, 3})
}

// P30.2

func TestSpans(t *testing.T) {
	f := fresh(t, 40)
	spans(t, f)
	front := 3*api.Page + api.Front
	first := alloc(t, f, 256, 10, 8)
	second := alloc(t, f, 256, 0, 1)
	third := alloc(t, f, 256, 1, 1)
	if first != front+16 || second != front+16+10+16 || third != second+16 {
		t.Fatalf("the objects are at %d, %d and %d", first, second, third)
	}
	spans(t, f, Span{256, first, 10}, Span{256, second, 0}, Span{256, third, 1})
	// They are told by their addresses, whosever they are, and whatever came first.
	a := one(t, f, 256)
	big := alloc(t, f, 256, 8000, 16)
	b := bytes(t, f, a, 20)
	low := alloc(t, f, a, 5, 1)
	is(t, "Begin", of(t, f, a).Begin(1), api.OK)
	is(t, "Grow", of(t, f, a).Grow("abc"), api.OK)
	content, grows := of(t, f, b).Mark(), of(t, f, a).Mark()
	spans(t, f, Span{256, first, 10}, Span{256, second, 0}, Span{256, third, 1}, Span{a, low, 5}, Span{a, grows, 3}, Span{256, big, 8000}, Span{b, content, 20})
	if !(third < low && low < grows && grows < big && big < content) {
		t.Fatalf("the objects are at %d, %d, %d, %d and %d", third, low, grows, big, content)
	}
	right(t, f)
	is(t, "Free", of(t, f, 256).Free(second), api.OK)
	is(t, "Remove", f.Remove(b), api.OK)
	spans(t, f, Span{256, first, 10}, Span{a, low, 5}, Span{a, grows, 3})
}

// Of one address the lesser slot is first, whatever the generations are.
func TestSpansOfOneAddress(t *testing.T) {
	f := fresh(t, 40)
	is(t, "Remove", f.Remove(one(t, f, 256)), api.OK)
	a, b := one(t, f, 256), one(t, f, 256)
	if a != 513 || b != 258 {
		t.Fatalf("the handles are %d and %d", a, b)
	}
	at := alloc(t, f, b, 7, 1)
	low := alloc(t, f, 256, 1, 1)
	high := alloc(t, f, a, 9, 1)
	for _, h := range []api.Handle{a, 256} {
		n := of(t, f, h)
		o, _ := n.Last()
		o.Prev = at
		is(t, "Write", object.Write(f.Arena, o), api.OK)
	}
	wanted := []Span{{256, low, 1}, {a, high, 9}, {256, at, 7}, {a, at, 7}, {b, at, 7}}
	slices.SortStableFunc(wanted, func(x, y Span) int { return x.At - y.At })
	if l := Spans(f); !slices.Equal(l, wanted) {
		t.Fatalf("the spans are %v, wanted %v", l, wanted)
	}
}

func TestOwner(t *testing.T) {
	f := fresh(t, 40)
	a := one(t, f, 256)
	b := bytes(t, f, a, 3)
	x := alloc(t, f, a, 10, 1)
	y := alloc(t, f, a, 0, 1)
	z := alloc(t, f, a, 1, 1)
	content := of(t, f, b).Mark()
	for at, wanted := range map[int]api.Handle{
		x - 1: 0, x: a, x + 5: a, x + 9: a, x + 10: 0,
		y - 1: 0, y: 0, y + 1: 0,
		z - 1: 0, z: a, z + 1: 0,
		content - 1: 0, content: b, content + 2: b, content + 3: 0,
		0: 0, -1: 0, math.MinInt: 0, math.MaxInt: 0, 40 * api.Page: 0, 39 * api.Page: 0, 3 * api.Page: 0, 4096: 0,
	} {
		owner(t, f, at, wanted)
	}
	is(t, "Free", of(t, f, a).Free(z), api.OK)
	owner(t, f, z, 0)
	owner(t, f, x, a)
}
