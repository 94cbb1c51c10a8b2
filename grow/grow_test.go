package grow

import (
	"math"
	"slices"
	"strings"
	"testing"

	"millpond/api"
	"millpond/arena"
	"millpond/buddy"
	"millpond/chunk"
	"millpond/object"
	"millpond/recycler"
	"millpond/region"
	"millpond/view"
)

// far: numbers of bytes that nothing has.
var far = []int{math.MinInt, math.MinInt + 1, -4096, -2, -1, 1<<32 + 1, math.MaxInt - 4096, math.MaxInt - 10, math.MaxInt - 1, math.MaxInt}

// odd: numbers that are no alignments.
var odd = []int{math.MinInt, -64, -8, -1, 0, 3, 5, 6, 7, 12, 48, 63, 65, 128, 4096, math.MaxInt}

// is: a test ends, if an error is another one than was wanted.
func is(t *testing.T, what string, got, wanted api.Errno) {
	t.Helper()
	if got != wanted {
		t.Fatalf("%s: error %d, wanted %d", what, got, wanted)
	}
}

// of: a view that is there.
func of(t *testing.T, a *arena.Arena, at, size int) view.View {
	t.Helper()
	v, e := view.Of(a, at, size)
	is(t, "view.Of", e, api.OK)
	return v
}

// fresh: a new recycler, of an arena that has so many pages beside the buddy's first one and another one, whose first 64 bytes are the recycler's; the others are for regions' views.
func fresh(t *testing.T, pages int) *recycler.Recycler {
	t.Helper()
	b, e := buddy.New(arena.New(pages + 2))
	is(t, "buddy.New", e, api.OK)
	at, e := b.Alloc(0)
	is(t, "Alloc", e, api.OK)
	r, e := recycler.New(b, of(t, b.Arena, at, 64))
	is(t, "recycler.New", e, api.OK)
	return r
}

// anew: the recycler over an arena where one stands already.
func anew(t *testing.T, a *arena.Arena) *recycler.Recycler {
	t.Helper()
	b, e := buddy.Open(a)
	is(t, "buddy.Open", e, api.OK)
	r, e := recycler.Open(b, of(t, a, b.Base()*api.Page, 64))
	is(t, "recycler.Open", e, api.OK)
	return r
}

// open: the i-th region; its owner is one more.
func open(t *testing.T, r *recycler.Recycler, i, front int) region.Region {
	t.Helper()
	g, e := region.Open(r, of(t, r.Arena, r.Base()*api.Page+64+32*i, 32), uint64(i+1), front)
	is(t, "region.Open", e, api.OK)
	return g
}

// grower: a new one.
func grower(t *testing.T, pages int) Grower {
	t.Helper()
	return Of(open(t, fresh(t, pages), 0, 32))
}

// whole: all bytes that are committed, page by page.
func whole(t *testing.T, a *arena.Arena) string {
	t.Helper()
	var all strings.Builder
	for first, n := range a.Pages().Rows() {
		s, e := a.Bytes(first*api.Page, n*api.Page)
		is(t, "Bytes", e, api.OK)
		all.WriteString(s)
	}
	return all.String()
}

// same: a call changes nothing.
func same(t *testing.T, a *arena.Arena, what string, call func()) {
	t.Helper()
	before := whole(t, a)
	call()
	if whole(t, a) != before {
		t.Fatalf("%s changes something", what)
	}
}

// grows: does an object grow, with these bytes, at such a multiple, and is its Room what its chunk has left?
func grows(t *testing.T, g Grower, align int, wanted string) {
	t.Helper()
	s, e := g.Text()
	if s != wanted || e != api.OK {
		t.Fatalf("Text: %.40q, of %d bytes, error %d, wanted %.40q, of %d bytes", s, len(s), e, wanted, len(wanted))
	}
	o, some := g.Last()
	c, _ := g.Newest()
	if !some || o.Size != len(wanted) || g.Held() != align || o.At%align != 0 || !c.Has(o.At, o.Size) || g.Room() != c.End()-o.At-o.Size {
		t.Fatalf("it is %v in %v, held for %d, and has room for %d", o, c, g.Held(), g.Room())
	}
}

// idle: none grows.
func idle(t *testing.T, g Grower, wanted api.Errno) {
	t.Helper()
	for _, n := range append(far, 0, 1) {
		is(t, "Blank", g.Blank(n), wanted)
		is(t, "Shrink", g.Shrink(n), wanted)
	}
	is(t, "Grow", g.Grow(), wanted)
	is(t, "Grow", g.Grow("a", "b"), wanted)
	is(t, "Byte", g.Byte('a'), wanted)
	is(t, "Abort", g.Abort(), wanted)
	if s, e := g.Text(); s != "" || e != wanted {
		t.Errorf("Text: %q, error %d, wanted %d", s, e, wanted)
	}
	if at, e := g.Finish(); at != 0 || e != wanted {
		t.Errorf("Finish: %d, error %d, wanted %d", at, e, wanted)
	}
	if g.Room() != 0 {
		t.Errorf("Room: %d", g.Room())
	}
}

// finish: it doesn't grow any more, and has these bytes.
func finish(t *testing.T, g Grower, wanted string) int {
	t.Helper()
	at, e := g.Finish()
	is(t, "Finish", e, api.OK)
	o, _ := g.Last()
	if s, e := g.Bytes(at, len(wanted)); s != wanted || e != api.OK || o.At != at || o.Size != len(wanted) || g.Held() != 0 {
		t.Fatalf("at %d it is %v, held for %d, wanted %.40q", at, o, g.Held(), wanted)
	}
	idle(t, g, api.ErrOrder)
	return at
}

// full: the one that grows has its chunk to itself up to the end.
func full(t *testing.T, g Grower) string {
	t.Helper()
	is(t, "Blank", g.Blank(g.Room()), api.OK)
	s, e := g.Text()
	is(t, "Text", e, api.OK)
	return s
}

func TestExample(t *testing.T) {
	g := grower(t, 20)
	is(t, "Begin", g.Begin(8), api.OK)
	is(t, "Grow", g.Grow("ab", "c"), api.OK)
	is(t, "Byte", g.Byte('d'), api.OK)
	is(t, "Shrink", g.Shrink(1), api.OK)
	grows(t, g, 8, "abc")
}

// P16.1

func TestOf(t *testing.T) {
	r := fresh(t, 20)
	x := open(t, r, 0, 32)
	at, e := x.Alloc(5, 1)
	is(t, "Alloc", e, api.OK)
	same(t, r.Arena, "Of", func() {
		g := Of(x)
		if g.Region != x || g.Mark() != at || g.Used() != 5 {
			t.Errorf("Of: %v", g)
		}
		idle(t, g, api.ErrOrder)
	})
	// What is asked of it changes what the region tells.
	g := Of(x)
	is(t, "Begin", g.Begin(16), api.OK)
	is(t, "Grow", g.Grow("abc"), api.OK)
	if x.Held() != 16 || x.Used() != 8 || Of(open(t, r, 0, 32)).Room() != g.Room() {
		t.Errorf("the region is held for %d, used %d", x.Held(), x.Used())
	}
	grows(t, Of(x), 16, "abc")
	grows(t, Of(open(t, anew(t, r.Clone()), 0, 32)), 16, "abc")
}

func TestBegin(t *testing.T) {
	for align := 1; align <= 64; align *= 2 {
		g := grower(t, 20)
		end := 0
		for i := range 5 {
			is(t, "Begin", g.Begin(align), api.OK)
			grows(t, g, align, "")
			o, _ := g.Last()
			c, _ := g.Newest()
			if end == 0 {
				end = c.At + api.Head
			}
			if at, fits := object.Fit(c, end, 0, align); !fits || at != o.At {
				t.Errorf("Begin(%d): at %d, wanted %d", align, o.At, at)
			}
			text := strings.Repeat("x", 7*i)
			is(t, "Grow", g.Grow(text), api.OK)
			end = finish(t, g, text) + len(text)
		}
		if len(g.Objects()) != 5 {
			t.Errorf("there are %v", g.Objects())
		}
	}
}

func TestBeginRefuses(t *testing.T) {
	g := grower(t, 2)
	for range 3 {
		same(t, g.Arena, "a refused Begin", func() {
			for _, align := range odd {
				is(t, "Begin", g.Begin(align), api.ErrArg)
			}
		})
		is(t, "Begin", g.Begin(1), api.OK)
		same(t, g.Arena, "a refused Begin", func() {
			for _, align := range append(odd, 1, 8, 64) {
				is(t, "Begin", g.Begin(align), api.ErrOpen)
			}
		})
		full(t, g)
		g.Finish()
		if len(g.Chunks()) == 2 {
			break
		}
	}
	same(t, g.Arena, "a refused Begin", func() {
		is(t, "Begin", g.Begin(1), api.ErrNoMemory)
		is(t, "Begin", g.Begin(3), api.ErrArg)
	})
	idle(t, g, api.ErrOrder)
}

func TestReopen(t *testing.T) {
	g := grower(t, 20)
	at, e := g.Alloc(3, 16)
	is(t, "Alloc", e, api.OK)
	is(t, "Put", g.Put(at, "abc"), api.OK)
	for align := 1; align <= 16; align *= 2 {
		is(t, "Reopen", g.Reopen(align), api.OK)
		text := strings.Repeat("d", align-1)
		grows(t, g, align, "abc"+text)
		is(t, "Grow", g.Grow(text, "d"), api.OK)
		text += text + "d"
		grows(t, g, align, "abc"+text)
		if to := finish(t, g, "abc"+text); to != at {
			t.Errorf("it is at %d, wanted %d", to, at)
		}
	}
}

func TestReopenRefuses(t *testing.T) {
	g := grower(t, 20)
	refused := func(wanted api.Errno, aligns ...int) {
		t.Helper()
		same(t, g.Arena, "a refused Reopen", func() {
			for _, align := range aligns {
				is(t, "Reopen", g.Reopen(align), wanted)
			}
		})
	}
	refused(api.ErrEmpty, append(odd, 1, 8, 64)...)
	at, e := g.Alloc(1, 64)
	for e == api.OK && at%8 != 4 {
		at, e = g.Alloc(1, 4)
	}
	is(t, "Alloc", e, api.OK)
	refused(api.ErrArg, append(odd, 8, 16, 32, 64)...)
	idle(t, g, api.ErrOrder)
	for _, align := range []int{1, 2, 4} {
		is(t, "Reopen", g.Reopen(align), api.OK)
		refused(api.ErrOpen, append(odd, 1, 2, 4, 8, 16, 32, 64)...)
		is(t, "Finish", func() api.Errno { _, e := g.Finish(); return e }(), api.OK)
	}
	g.Empty()
	refused(api.ErrEmpty, append(odd, 1, 8, 64)...)
}

// P16.2

func TestGrowParts(t *testing.T) {
	parts := []string{"", "a", "\x00", "bc", "", "\xff\x00\xff", strings.Repeat("long", 100), "e"}
	for cut := range len(parts) + 1 {
		g := grower(t, 20)
		is(t, "Begin", g.Begin(8), api.OK)
		was := slices.Clone(parts)
		is(t, "Grow", g.Grow(parts[:cut]...), api.OK)
		grows(t, g, 8, strings.Join(parts[:cut], ""))
		same(t, g.Arena, "Grow of no parts", func() {
			is(t, "Grow", g.Grow(), api.OK)
			is(t, "Grow", g.Grow("", ""), api.OK)
		})
		is(t, "Grow", g.Grow(parts[cut:]...), api.OK)
		grows(t, g, 8, strings.Join(parts, ""))
		if !slices.Equal(parts, was) {
			t.Error("the parts have changed")
		}
	}
}

func TestBlankAndShrink(t *testing.T) {
	g := grower(t, 20)
	is(t, "Begin", g.Begin(4), api.OK)
	text := ""
	for i, n := range []int{0, 1, 5, 300, 4000, 10000} {
		is(t, "Blank", g.Blank(n), api.OK)
		text += strings.Repeat("\x00", n)
		grows(t, g, 4, text)
		is(t, "Grow", g.Grow("xyz"), api.OK)
		text += "xyz"
		is(t, "Shrink", g.Shrink(i%4), api.OK)
		text = text[:len(text)-i%4]
		grows(t, g, 4, text)
	}
	is(t, "Shrink", g.Shrink(4000), api.OK)
	text = text[:len(text)-4000]
	grows(t, g, 4, text)
	// What is gone doesn't come back.
	is(t, "Grow", g.Grow("lost"), api.OK)
	is(t, "Shrink", g.Shrink(4), api.OK)
	is(t, "Blank", g.Blank(4), api.OK)
	text += "\x00\x00\x00\x00"
	grows(t, g, 4, text)
	is(t, "Shrink", g.Shrink(len(text)), api.OK)
	grows(t, g, 4, "")
	is(t, "Shrink", g.Shrink(0), api.OK)
	finish(t, g, "")
}

func TestByteAndRoom(t *testing.T) {
	g := grower(t, 20)
	is(t, "Begin", g.Begin(64), api.OK)
	if g.Room() != 4096-64 {
		t.Errorf("Room: %d", g.Room())
	}
	is(t, "Blank", g.Blank(4000), api.OK)
	text := strings.Repeat("\x00", 4000)
	o, _ := g.Last()
	for i := range 32 {
		if g.Room() != 32-i {
			t.Errorf("Room: %d, wanted %d", g.Room(), 32-i)
		}
		is(t, "Byte", g.Byte(byte(250+i)), api.OK)
		text += string([]byte{byte(250 + i)})
		grows(t, g, 64, text)
	}
	same(t, g.Arena, "Byte without room", func() {
		for _, b := range []byte{0, 1, 255} {
			is(t, "Byte", g.Byte(b), api.ErrRange)
		}
	})
	if last, _ := g.Last(); last.At != o.At || g.Room() != 0 {
		t.Errorf("it is %v, with room for %d", last, g.Room())
	}
	is(t, "Shrink", g.Shrink(1), api.OK)
	is(t, "Byte", g.Byte('z'), api.OK)
	grows(t, g, 64, text[:len(text)-1]+"z")
	// By Grow it goes on, in another chunk.
	is(t, "Grow", g.Grow("!"), api.OK)
	grows(t, g, 64, text[:len(text)-1]+"z!")
	if last, _ := g.Last(); last.At == o.At || g.Room() != 8192-64-4033 || len(g.Chunks()) != 2 {
		t.Errorf("it is %v, with room for %d", last, g.Room())
	}
	is(t, "Byte", g.Byte('?'), api.OK)
	grows(t, g, 64, text[:len(text)-1]+"z!?")
}

// So many bytes as there is room for come where it stands, and one more in another chunk.
func TestRoomIsWhatFits(t *testing.T) {
	for _, by := range []func(g Grower, n int) api.Errno{Grower.Blank, func(g Grower, n int) api.Errno { return g.Grow(strings.Repeat("x", n)) }} {
		g := grower(t, 60)
		is(t, "Begin", g.Begin(1), api.OK)
		for range 3 {
			o, _ := g.Last()
			is(t, "Grow", by(g, g.Room()), api.OK)
			if last, _ := g.Last(); last.At != o.At || g.Room() != 0 {
				t.Errorf("it was at %d, and is at %d", o.At, last.At)
			}
			is(t, "Grow", by(g, 1), api.OK)
			if last, _ := g.Last(); last.At == o.At || g.Room() == 0 {
				t.Errorf("it is at %d still", last.At)
			}
		}
	}
}

// Where a chunk was joined to the chain, there is room in its own one even so.
func TestRoomBehindAJoinedChunk(t *testing.T) {
	g := grower(t, 60)
	is(t, "Begin", g.Begin(16), api.OK)
	is(t, "Blank", g.Blank(4046), api.OK)
	o, _ := g.Last()
	c, e := g.Take(3, g.Owner())
	is(t, "Take", e, api.OK)
	is(t, "Join", g.Join(c.At), api.OK)
	for room := 2; room > 0; room-- {
		if g.Room() != room {
			t.Errorf("Room: %d, wanted %d", g.Room(), room)
		}
		is(t, "Byte", g.Byte('b'), api.OK)
	}
	if last, _ := g.Last(); last.At != o.At || g.Room() != 0 {
		t.Errorf("it was at %d, and is %v, with room for %d", o.At, last, g.Room())
	}
	is(t, "Byte", g.Byte('b'), api.ErrRange)
	is(t, "Grow", g.Grow("c"), api.OK)
	grows(t, g, 16, strings.Repeat("\x00", 4046)+"bbc")
}

func TestGrowRefuses(t *testing.T) {
	for _, first := range []int{0, 10, 3000} {
		g := grower(t, 6)
		is(t, "Begin", g.Begin(8), api.OK)
		is(t, "Blank", g.Blank(first), api.OK)
		text := strings.Repeat("\x00", first)
		same(t, g.Arena, "what is refused", func() {
			for _, n := range far {
				is(t, "Blank", g.Blank(n), api.ErrArg)
				is(t, "Shrink", g.Shrink(n), api.ErrArg)
			}
			for _, n := range []int{first + 1, first + 2, 4000, 1 << 31} {
				is(t, "Shrink", g.Shrink(n), api.ErrArg)
			}
			for _, n := range []int{4<<20 - 47, 4 << 20} {
				is(t, "Blank", g.Blank(n-first), api.ErrArg)
				is(t, "Grow", g.Grow("a", strings.Repeat("b", n-first-1)), api.ErrArg)
			}
			for _, n := range []int{4<<20 - 48, 1 << 20, 40000} {
				is(t, "Blank", g.Blank(n-first), api.ErrNoMemory)
				is(t, "Grow", g.Grow("a", strings.Repeat("b", n-first-1)), api.ErrNoMemory)
			}
			grows(t, g, 8, text)
		})
		// By as many bytes as its chunk has left it grows even so.
		is(t, "Blank", g.Blank(4000-first), api.OK)
		grows(t, g, 8, strings.Repeat("\x00", 4000))
	}
}

// Where a commit is refused it is as it was, and grows when it is asked again.
func TestGrowWhereACommitIsRefused(t *testing.T) {
	g := grower(t, 20)
	is(t, "Begin", g.Begin(8), api.OK)
	is(t, "Grow", g.Grow("abc"), api.OK)
	long := strings.Repeat("long", 3000)
	g.Refuse(0)
	is(t, "Grow", g.Grow("x", long), api.ErrNoMemory)
	grows(t, g, 8, "abc")
	is(t, "Grow", g.Grow("x", long), api.OK)
	grows(t, g, 8, "abcx"+long)
	g.Refuse(0)
	is(t, "Blank", g.Blank(20000), api.ErrNoMemory)
	grows(t, g, 8, "abcx"+long)
	is(t, "Blank", g.Blank(20000), api.OK)
	grows(t, g, 8, "abcx"+long+strings.Repeat("\x00", 20000))
}

// It is moved to a place of the alignment that it began with.
func TestGrowKeepsItsAlignment(t *testing.T) {
	for align := 1; align <= 64; align *= 2 {
		g := grower(t, 60)
		_, e := g.Alloc(5, 1)
		is(t, "Alloc", e, api.OK)
		is(t, "Begin", g.Begin(align), api.OK)
		text := ""
		for _, n := range []int{100, 3000, 5000, 8000, 20000} {
			part := strings.Repeat(string(rune('a'+n/1000)), n)
			is(t, "Grow", g.Grow(part), api.OK)
			text += part
			grows(t, g, align, text)
			o, _ := g.Last()
			if c, _ := g.Newest(); n > 4000 && o.At != c.At+max(48, (48+align-1)/align*align) {
				t.Errorf("it is %v in %v", o, c)
			}
		}
	}
}

// The chunk that it left goes back, if it isn't the oldest one, and nothing else stands in it.
func TestGrowLeavesChunksBehind(t *testing.T) {
	g := grower(t, 200)
	is(t, "Begin", g.Begin(8), api.OK)
	is(t, "Grow", g.Grow("abc"), api.OK)
	for _, n := range []int{5000, 10000, 20000, 40000} {
		is(t, "Blank", g.Blank(n), api.OK)
		if len(g.Chunks()) != 2 {
			t.Errorf("its chunks are %v", g.Chunks())
		}
	}
	is(t, "Abort", g.Abort(), api.OK)
	if len(g.Chunks()) != 1 || len(g.Objects()) != 0 {
		t.Errorf("its chunks are %v", g.Chunks())
	}
}

// P16.3

func TestFinishAndAbort(t *testing.T) {
	g := grower(t, 60)
	x, e := g.Alloc(3, 1)
	is(t, "Alloc", e, api.OK)
	is(t, "Put", g.Put(x, "xyz"), api.OK)
	all, chunks := g.Objects(), g.Chunks()
	for _, n := range []int{0, 1, 100, 5000, 50000} {
		is(t, "Begin", g.Begin(16), api.OK)
		o, _ := g.Last()
		is(t, "Blank", g.Blank(n), api.OK)
		is(t, "Abort", g.Abort(), api.OK)
		idle(t, g, api.ErrOrder)
		if !slices.Equal(g.Objects(), all) || !slices.Equal(g.Chunks(), chunks) || g.Held() != 0 || g.Used() != 3 {
			t.Errorf("there are %v in %v", g.Objects(), g.Chunks())
		}
		is(t, "Begin", g.Begin(16), api.OK)
		if again, _ := g.Last(); again != o {
			t.Errorf("it is %v, wanted %v", again, o)
		}
		is(t, "Blank", g.Blank(n), api.OK)
		y := finish(t, g, strings.Repeat("\x00", n))
		if g.Mark() != y || len(g.Objects()) != 2 {
			t.Errorf("there are %v", g.Objects())
		}
		is(t, "Reopen", g.Reopen(16), api.OK)
		is(t, "Abort", g.Abort(), api.OK)
		if s, _ := g.Bytes(x, 3); s != "xyz" || g.Mark() != x {
			t.Errorf("the other one has %q", s)
		}
	}
}

func TestWhereNoneGrows(t *testing.T) {
	g := grower(t, 20)
	same(t, g.Arena, "what is refused", func() { idle(t, g, api.ErrOrder) })
	_, e := g.Alloc(100, 8)
	is(t, "Alloc", e, api.OK)
	same(t, g.Arena, "what is refused", func() { idle(t, g, api.ErrOrder) })
	is(t, "Begin", g.Begin(8), api.OK)
	g.Empty()
	same(t, g.Arena, "what is refused", func() { idle(t, g, api.ErrOrder) })
}

func TestTheZeroGrower(t *testing.T) {
	var g Grower
	idle(t, g, api.ErrNil)
	for _, align := range append(odd, 1, 8, 64) {
		is(t, "Begin", g.Begin(align), api.ErrNil)
		is(t, "Reopen", g.Reopen(align), api.ErrNil)
	}
	if g != (Grower{}) || Of(region.Region{}) != g || len(g.Objects()) != 0 || g.Held() != 0 || g.Mark() != 0 {
		t.Errorf("it tells %v", g)
	}
}

// While one grows its region refuses what would be in its way, and goes on to tell.
func TestWhileOneGrows(t *testing.T) {
	g := grower(t, 20)
	x, e := g.Alloc(10, 8)
	is(t, "Alloc", e, api.OK)
	is(t, "Begin", g.Begin(8), api.OK)
	is(t, "Grow", g.Grow("abc"), api.OK)
	o, _ := g.Last()
	same(t, g.Arena, "what is refused", func() {
		for _, n := range []int{-1, 0, 1, 5000} {
			if at, e := g.Alloc(n, 8); at != 0 || e != api.ErrOpen {
				t.Errorf("Alloc: %d, error %d", at, e)
			}
		}
		for _, at := range []int{0, 1, x, o.At} {
			is(t, "Free", g.Free(at), api.ErrOpen)
			is(t, "Release", g.Release(at), api.ErrOpen)
		}
	})
	if g.Used() != 13 || g.Mark() != o.At || len(g.Objects()) != 2 || g.Owner() != 1 {
		t.Errorf("there are %v", g.Objects())
	}
	finish(t, g, "abc")
	is(t, "Free", g.Free(x), api.OK)
}

// A last object that the region holds is one that grows; for what is no alignment it can't be resized, but Byte asks for none.
func TestHeldByItsRegion(t *testing.T) {
	g := grower(t, 20)
	for _, align := range []int{1, 8, 3, -1} {
		g.Hold(align)
		idle(t, g, api.ErrOrder)
		is(t, "Reopen", g.Reopen(8), api.ErrEmpty)
		is(t, "Begin", g.Begin(8), api.ErrOpen)
		if g.Held() != align {
			t.Errorf("it is held for %d, wanted %d", g.Held(), align)
		}
	}
	g.Hold(0)
	at, e := g.Alloc(2, 8)
	is(t, "Alloc", e, api.OK)
	g.Hold(8)
	is(t, "Grow", g.Grow("a"), api.OK)
	grows(t, g, 8, "\x00\x00a")
	g.Hold(3)
	is(t, "Grow", g.Grow("a"), api.ErrArg)
	is(t, "Blank", g.Blank(1), api.ErrArg)
	is(t, "Shrink", g.Shrink(1), api.ErrArg)
	is(t, "Byte", g.Byte('b'), api.OK)
	if s, e := g.Text(); s != "\x00\x00ab" || e != api.OK {
		t.Errorf("Text: %q, error %d", s, e)
	}
	if to := finish(t, g, "\x00\x00ab"); to != at {
		t.Errorf("it is at %d, wanted %d", to, at)
	}
}

// P16.4

// model is a grower as its chapter's words have it.
type model struct {
	done  []string // the bytes of the objects that don't grow, the oldest first
	grown string
	align int // 0: none grows
}

// step: something is done to the grower and to the model; the numbers of a step follow from the one's ahead.
func step(t *testing.T, g Grower, m *model, number func(int) int) {
	t.Helper()
	sizes := []int{number(10), number(300), number(5000), g.Room(), g.Room() + 1}
	n := sizes[number(len(sizes))]
	text := strings.Repeat(string([]byte{byte(number(256))}), n)
	align := 1 << number(7)
	grown := m.grown
	e := api.OK
	switch k := number(20); {
	case k < 3:
		e = g.Begin(align)
		if m.align != 0 {
			is(t, "Begin", e, api.ErrOpen)
		} else if e == api.OK {
			m.grown, m.align = "", align
		} else {
			is(t, "Begin", e, api.ErrNoMemory)
		}
		return
	case k == 3:
		last, some := g.Last()
		e = g.Reopen(align)
		if can := m.align == 0 && some && last.At%align == 0; can != (e == api.OK) {
			t.Fatalf("Reopen(%d) of %v: error %d", align, last, e)
		}
		if e == api.OK {
			m.align, m.grown = align, m.done[len(m.done)-1]
			m.done = m.done[:len(m.done)-1]
		}
		return
	case k < 8:
		cut := number(n + 1)
		e = g.Grow(text[:cut], "", "mid", text[cut:])
		grown += text[:cut] + "mid" + text[cut:]
	case k < 10:
		e = g.Blank(n)
		grown += strings.Repeat("\x00", n)
	case k < 13:
		e = g.Shrink(n)
		if n > len(grown) && m.align != 0 {
			is(t, "Shrink", e, api.ErrArg)
			return
		}
		grown = grown[:max(len(grown)-n, 0)]
	case k < 16:
		room := g.Room()
		e = g.Byte(byte(n))
		if room == 0 && m.align != 0 {
			is(t, "Byte", e, api.ErrRange)
			return
		}
		grown += string([]byte{byte(n)})
	case k == 16:
		_, e = g.Finish()
		if m.align != 0 {
			m.done, m.align, m.grown = append(m.done, m.grown), 0, ""
			is(t, "Finish", e, api.OK)
			return
		}
	case k == 17:
		if e = g.Abort(); m.align != 0 {
			m.align, m.grown = 0, ""
			is(t, "Abort", e, api.OK)
			return
		}
	case k == 18 && m.align == 0 && len(m.done) > 0:
		i := number(len(m.done))
		is(t, "Free", g.Free(g.Objects()[len(m.done)-1-i].At), api.OK)
		m.done = m.done[:i]
		return
	default:
		at, e := g.Alloc(n, align)
		if m.align != 0 {
			is(t, "Alloc", e, api.ErrOpen)
		} else if e == api.OK {
			is(t, "Put", g.Put(at, text), api.OK)
			m.done = append(m.done, text)
		}
		return
	}
	if m.align == 0 {
		is(t, "a call where none grows", e, api.ErrOrder)
	} else if e == api.OK {
		m.grown = grown
	} else {
		is(t, "what is too great", e, api.ErrNoMemory)
	}
}

// look: have all objects their bytes?
func look(t *testing.T, g Grower, m *model) {
	t.Helper()
	wanted := m.done
	if m.align != 0 {
		grows(t, g, m.align, m.grown)
		wanted = append(slices.Clone(wanted), m.grown)
	} else if g.Held() != 0 || g.Room() != 0 {
		t.Fatal("one grows")
	}
	all := g.Objects()
	if len(all) != len(wanted) {
		t.Fatalf("there are %d objects, wanted %d", len(all), len(wanted))
	}
	for i, text := range wanted {
		o := all[len(all)-1-i]
		if s, e := g.Bytes(o.At, o.Size); s != text || e != api.OK {
			t.Fatalf("%v has %.40q, wanted %.40q", o, s, text)
		}
	}
}

func TestAsTheChapterSays(t *testing.T) {
	for _, pages := range []int{1, 5, 30, 100, 300} {
		r := fresh(t, pages)
		m := &model{}
		x := pages
		number := func(below int) int {
			x = (x*1103515245 + 12345) % (1 << 31)
			return x / 64 % below
		}
		var first chunk.Chunk
		for i := range 2000 {
			g := Of(open(t, r, 0, 32+pages))
			step(t, g, m, number)
			look(t, g, m)
			if i%50 == 0 {
				r = anew(t, r.Clone())
			}
			if chunks := g.Chunks(); len(chunks) > 0 {
				oldest := chunks[len(chunks)-1]
				if first != (chunk.Chunk{}) && oldest != first {
					t.Fatalf("the oldest chunk was %v, and is %v", first, oldest)
				}
				first = oldest
			}
		}
	}
}
