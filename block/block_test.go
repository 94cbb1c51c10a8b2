package block

import (
	"math"
	"slices"
	"strings"
	"testing"

	"millpond/api"
	"millpond/arena"
	"millpond/buddy"
	"millpond/census"
	"millpond/chunk"
	"millpond/node"
	"millpond/recycler"
	"millpond/view"
)

const (
	inFront = 4096 - 1024 - 16       // so many bytes have room in a node's own chunk of one page,
	inPage  = 4096 - 48              // so many in another one of one page,
	most    = 4096*1024 - 48         // and so many in the greatest one
	noNode  = math.MaxUint64 - 1<<32 // nobody's handle
)

// below: numbers below 0.
var below = []int{-1, -2, -16, -4096, -api.Most, math.MinInt + 1, math.MinInt}

// above: sizes for which no order has room.
var above = []int{most + 1, most + 16, api.Page << api.MaxOrder, api.Most, api.Most + 1, math.MaxInt - 4096, math.MaxInt - 1, math.MaxInt}

// is: a test ends, if an error is another one than was wanted.
func is(t *testing.T, what string, got, wanted api.Errno) {
	t.Helper()
	if got != wanted {
		t.Fatalf("%s: error %d, wanted %d", what, got, wanted)
	}
}

// fresh: a new recycler, of an arena that has so many pages beside the buddy's first ones and another one, whose first 64 bytes are the recycler's.
func fresh(t *testing.T, pages int) *recycler.Recycler {
	t.Helper()
	b, e := buddy.New(arena.New(pages + 2))
	is(t, "buddy.New", e, api.OK)
	at, e := b.Alloc(0)
	is(t, "Alloc", e, api.OK)
	v, e := view.Of(b.Arena, at, 64)
	is(t, "view.Of", e, api.OK)
	r, e := recycler.New(b, v)
	is(t, "recycler.New", e, api.OK)
	return r
}

// anew: the recycler over an arena where one stands already.
func anew(t *testing.T, a *arena.Arena) *recycler.Recycler {
	t.Helper()
	b, e := buddy.Open(a)
	is(t, "buddy.Open", e, api.OK)
	v, e := view.Of(a, b.Base()*api.Page, 64)
	is(t, "view.Of", e, api.OK)
	r, e := recycler.Open(b, v)
	is(t, "recycler.Open", e, api.OK)
	return r
}

// create: a new block, without content.
func create(t *testing.T, r *recycler.Recycler, h api.Handle) Block {
	t.Helper()
	n, e := node.Make(r, 0, h, "name")
	is(t, "node.Make", e, api.OK)
	return Of(n)
}

// filled: a block of a new recycler, whose content is that.
func filled(t *testing.T, pages int, text string) Block {
	t.Helper()
	b := create(t, fresh(t, pages), 1)
	is(t, "Make", b.Make(len(text)), api.OK)
	is(t, "Write", b.Write(0, text), api.OK)
	return b
}

// again: the block that stands at a block's place, by a recycler.
func again(t *testing.T, r *recycler.Recycler, b Block) Block {
	t.Helper()
	n, e := node.At(r, b.Where())
	is(t, "node.At", e, api.OK)
	return Of(n)
}

// junk: chunks of these orders are cached, all full of other bytes.
func junk(t *testing.T, r *recycler.Recycler, orders ...int) {
	t.Helper()
	var all []chunk.Chunk
	for _, order := range orders {
		c, e := r.Take(order, noNode)
		is(t, "Take", e, api.OK)
		is(t, "Fill", r.Fill(c.At+api.Head, api.Page<<c.Order-api.Head, 0xff), api.OK)
		all = append(all, c)
	}
	for _, c := range all {
		is(t, "Give", r.Give(c.At), api.OK)
	}
}

// some: so many bytes, which hang on where they are.
func some(n int) string {
	var all strings.Builder
	for i := range n {
		all.WriteByte(byte(i*7 + i/256 + 1))
	}
	return all.String()
}

// noughts: so many.
func noughts(n int) string {
	return strings.Repeat("\x00", n)
}

// whole: all bytes that are committed.
func whole(t *testing.T, a *arena.Arena) string {
	t.Helper()
	var all strings.Builder
	for first, n := range a.Pages().Rows() {
		s, e := a.Bytes(first*api.Page, n*api.Page)
		is(t, "Bytes", e, api.OK)
		all.WriteString(s)
	}
	return all.String()
}

// same: a call changes nothing.
func same(t *testing.T, a *arena.Arena, what string, call func()) {
	t.Helper()
	before := whole(t, a)
	call()
	if whole(t, a) != before {
		t.Fatalf("%s changes something", what)
	}
}

// tells: is that the content? To ask changes nothing.
func tells(t *testing.T, b Block, wanted string) {
	t.Helper()
	same(t, b.Arena, "to ask", func() {
		t.Helper()
		has(t, b, wanted)
	})
}

// has: is that the content, the only object, aligned, in a chunk of the node?
func has(t *testing.T, b Block, wanted string) {
	t.Helper()
	if b.Len() != len(wanted) {
		t.Fatalf("it has %d bytes, wanted %d", b.Len(), len(wanted))
	}
	if s, e := b.Read(0, len(wanted)); s != wanted || e != api.OK {
		t.Fatalf("Read: %.40q .., error %d, wanted %.40q ..", s, e, wanted)
	}
	all := b.Objects()
	if len(all) != 1 || all[0].Size != len(wanted) || all[0].At%16 != 0 || all[0].Prev != 0 || b.Used() != len(wanted) || b.Held() != 0 {
		t.Fatalf("its objects are %v", all)
	}
	if !slices.ContainsFunc(b.Chunks(), func(c chunk.Chunk) bool { return c.Has(all[0].At-16, 16+len(wanted)) }) {
		t.Fatalf("%v isn't in %v", all[0], b.Chunks())
	}
}

// bare: a block has no content, nor anything else but its node.
func bare(t *testing.T, b Block) {
	t.Helper()
	same(t, b.Arena, "what is refused", func() {
		t.Helper()
		if b.Len() != 0 {
			t.Fatalf("it has %d bytes", b.Len())
		}
		for _, n := range append(append(slices.Clone(below), above...), 0, 1) {
			unread(t, b, n, n, api.ErrNone)
			unread(t, b, 0, n, api.ErrNone)
			is(t, "Write", b.Write(n, ""), api.ErrNone)
			is(t, "Write", b.Write(n, "a"), api.ErrNone)
			is(t, "Resize", b.Resize(n), api.ErrNone)
		}
		is(t, "Append", b.Append(), api.ErrNone)
		is(t, "Append", b.Append("", "a"), api.ErrNone)
	})
	if len(b.Objects()) != 0 || len(b.Chunks()) != 1 {
		t.Fatalf("it has %v in %v", b.Objects(), b.Chunks())
	}
}

// unread: Read is refused.
func unread(t *testing.T, b Block, at, n int, wanted api.Errno) {
	t.Helper()
	if s, e := b.Read(at, n); s != "" || e != wanted {
		t.Fatalf("Read(%d, %d): %.40q, error %d, wanted %d", at, n, s, e, wanted)
	}
}

func TestExample(t *testing.T) {
	b := create(t, fresh(t, 5), 1)
	is(t, "Make", b.Make(2), api.OK)
	is(t, "Write", b.Write(0, "ab"), api.OK)
	is(t, "Append", b.Append("c", "d"), api.OK)
	if s, e := b.Read(0, 4); s != "abcd" || e != api.OK {
		t.Errorf("Read: %q, error %d", s, e)
	}
}

// P24.1

func TestOf(t *testing.T) {
	r := fresh(t, 5)
	n, e := node.Make(r, 0, 5, "b")
	is(t, "node.Make", e, api.OK)
	b := Of(n)
	if b.Where() != n.Where() || b.Name() != "b" || b.Get(node.Handle) != 5 || b.Recycler != r || b.Node != n {
		t.Error("its node is another one")
	}
	bare(t, b)
	is(t, "Make", b.Make(3), api.OK)
	tells(t, Of(n), noughts(3))
	if Of(node.Node{}) != (Block{}) {
		t.Error("of no node there is a block")
	}
}

func TestMake(t *testing.T) {
	for _, n := range []int{0, 1, 2, 15, 16, 17, 3000, inFront - 1, inFront, inFront + 1, inPage, inPage + 1, 9000, 65536, most - 1, most} {
		r := fresh(t, 2100)
		junk(t, r, 0, 0, 1, 2, 3)
		b := create(t, r, 1)
		bare(t, b)
		is(t, "Make", b.Make(n), api.OK)
		tells(t, b, noughts(n))
		own := b.Objects()[0].At - b.Where()
		if chunks := len(b.Chunks()); n <= inFront && (chunks != 1 || own != 1040) || n > inFront && chunks != 2 {
			t.Errorf("of %d bytes: it is %d behind its node, in %v", n, own, b.Chunks())
		}
	}
}

func TestMakeRefuses(t *testing.T) {
	b := create(t, fresh(t, 20), 1)
	same(t, b.Arena, "Make", func() {
		for _, n := range append(slices.Clone(below), above...) {
			is(t, "Make", b.Make(n), api.ErrArg)
		}
		// Of what would have room in a greater arena alone.
		is(t, "Make", b.Make(16*api.Page), api.ErrNoMemory)
		is(t, "Make", b.Make(most), api.ErrNoMemory)
	})
	bare(t, b)
	b.Hold(8)
	same(t, b.Arena, "Make", func() {
		is(t, "Make", b.Make(1), api.ErrOpen)
		is(t, "Make", b.Make(-1), api.ErrOpen)
	})
	b.Hold(0)
	bare(t, b)
	is(t, "Make", b.Make(2), api.OK)
	is(t, "Write", b.Write(0, "xy"), api.OK)
	same(t, b.Arena, "Make", func() {
		for _, n := range append(append(slices.Clone(below), above...), 0, 1, 2, 3, 9000) {
			is(t, "Make", b.Make(n), api.ErrThere)
		}
	})
	tells(t, b, "xy")
	// A content without bytes is one, too.
	b = filled(t, 5, "")
	is(t, "Make", b.Make(0), api.ErrThere)
	is(t, "Make", b.Make(1), api.ErrThere)
	tells(t, b, "")
}

func TestMakeWhereAPageIsRefused(t *testing.T) {
	r := fresh(t, 40)
	b := create(t, r, 1)
	r.Refuse(0)
	is(t, "Make", b.Make(30000), api.ErrNoMemory)
	bare(t, b)
	is(t, "Make", b.Make(inFront), api.OK)
	tells(t, b, noughts(inFront))
}

func TestTheZeroBlock(t *testing.T) {
	for _, b := range []Block{{}, Of(node.Node{})} {
		if b.Len() != 0 {
			t.Errorf("it has %d bytes", b.Len())
		}
		for _, n := range append(append(slices.Clone(below), above...), 0, 1) {
			is(t, "Make", b.Make(n), api.ErrNil)
			is(t, "Resize", b.Resize(n), api.ErrNil)
			is(t, "Write", b.Write(n, ""), api.ErrNil)
			is(t, "Write", b.Write(n, "a"), api.ErrNil)
			unread(t, b, n, 0, api.ErrNil)
			unread(t, b, 0, n, api.ErrNil)
		}
		is(t, "Append", b.Append(), api.ErrNil)
		is(t, "Append", b.Append("a"), api.ErrNil)
	}
}

// P24.2

func TestReadAndWrite(t *testing.T) {
	for _, size := range []int{0, 1, 2, 17, 300, inFront, inPage, 9000} {
		text := some(size)
		b := filled(t, 40, text)
		tells(t, b, text)
		places := []int{0, 1, size / 3, size / 2, size - 1, size}
		for _, at := range places {
			for _, end := range places {
				if at < 0 || at > end || end > size {
					continue
				}
				if s, e := b.Read(at, end-at); s != text[at:end] || e != api.OK {
					t.Fatalf("Read(%d, %d): %.40q, error %d", at, end-at, s, e)
				}
				laid := strings.Repeat("#", end-at)
				is(t, "Write", b.Write(at, laid), api.OK)
				tells(t, b, text[:at]+laid+text[end:])
				is(t, "Write", b.Write(at, text[at:end]), api.OK)
			}
		}
		tells(t, b, text)
	}
}

func TestReadAndWriteRefuse(t *testing.T) {
	for _, size := range []int{0, 1, 10, inFront, 9000} {
		text := some(size)
		b := filled(t, 40, text)
		same(t, b.Arena, "what is refused", func() {
			for _, n := range below {
				for _, at := range []int{0, 1, size, size + 1, -n, math.MaxInt, n} {
					unread(t, b, at, n, api.ErrRange)
					unread(t, b, n, at, api.ErrRange)
				}
				is(t, "Write", b.Write(n, ""), api.ErrRange)
				is(t, "Write", b.Write(n, "a"), api.ErrRange)
				is(t, "Write", b.Write(n, text), api.ErrRange)
			}
			for _, n := range append(slices.Clone(above), 1, 2, 100) {
				for _, at := range []int{0, 1, size / 2, size} {
					unread(t, b, at, max(size-at+n, n), api.ErrRange)
				}
				far := max(size+n, n)
				unread(t, b, far, 0, api.ErrRange)
				unread(t, b, far, 1, api.ErrRange)
				unread(t, b, far, math.MaxInt, api.ErrRange)
				is(t, "Write", b.Write(far, ""), api.ErrRange)
				is(t, "Write", b.Write(far, "a"), api.ErrRange)
			}
			is(t, "Write", b.Write(0, text+"a"), api.ErrRange)
			is(t, "Write", b.Write(1, text), api.ErrRange)
			is(t, "Write", b.Write(size, "a"), api.ErrRange)
		})
		tells(t, b, text)
	}
}

func TestResize(t *testing.T) {
	sizes := []int{0, 1, 10, inFront - 1, inFront, inFront + 1, inPage, inPage + 1, 9000, 20000}
	for _, from := range sizes {
		for _, to := range sizes {
			text := some(from)
			r := fresh(t, 60)
			junk(t, r, 0, 0, 1, 2, 3)
			b := create(t, r, 1)
			is(t, "Make", b.Make(from), api.OK)
			is(t, "Write", b.Write(0, text), api.OK)
			is(t, "Resize", b.Resize(to), api.OK)
			text = (text + noughts(max(to-from, 0)))[:to]
			tells(t, b, text)
			is(t, "Resize", b.Resize(to), api.OK)
			tells(t, b, text)
		}
	}
}

// Bytes that were cut off are noughts, when they are there again.
func TestWhatWasCutOffIsNought(t *testing.T) {
	for _, size := range []int{10, inFront, 9000} {
		text := some(size)
		b := filled(t, 60, text)
		for _, left := range []int{size - 1, size / 2, 1, 0} {
			is(t, "Resize", b.Resize(left), api.OK)
			tells(t, b, text[:left])
			is(t, "Resize", b.Resize(size), api.OK)
			tells(t, b, text[:left]+noughts(size-left))
			is(t, "Resize", b.Resize(size+20000), api.OK)
			tells(t, b, text[:left]+noughts(size-left+20000))
		}
	}
}

func TestResizeRefuses(t *testing.T) {
	for _, size := range []int{0, 5, inFront, 9000} {
		text := some(size)
		b := filled(t, 20, text)
		same(t, b.Arena, "Resize", func() {
			for _, n := range append(slices.Clone(below), above...) {
				is(t, "Resize", b.Resize(n), api.ErrArg)
			}
			is(t, "Resize", b.Resize(32*api.Page), api.ErrNoMemory)
			is(t, "Resize", b.Resize(most), api.ErrNoMemory)
		})
		tells(t, b, text)
	}
}

func TestResizeToTheGreatest(t *testing.T) {
	b := filled(t, 3100, "first")
	is(t, "Resize", b.Resize(most), api.OK)
	tells(t, b, "first"+noughts(most-5))
	is(t, "Append", b.Append("a"), api.ErrArg)
	is(t, "Append", b.Append("", ""), api.OK)
	is(t, "Resize", b.Resize(most+1), api.ErrArg)
	is(t, "Resize", b.Resize(6), api.OK)
	is(t, "Append", b.Append("last"), api.OK)
	tells(t, b, "first\x00last")
}

func TestAppend(t *testing.T) {
	long := some(5000)
	for _, size := range []int{0, 1, inFront - 2, inFront, inPage, 9000} {
		text := some(size)
		for _, parts := range [][]string{nil, {""}, {"", "", ""}, {"a"}, {"\x00"}, {"ab", "", "c"}, {"x", long, "y", long}, {long, long, long}} {
			b := filled(t, 60, text)
			handed := append(slices.Clone(parts), "spare")
			is(t, "Append", b.Append(handed[:len(parts)]...), api.OK)
			tells(t, b, text+strings.Join(parts, ""))
			if !slices.Equal(handed, append(slices.Clone(parts), "spare")) {
				t.Errorf("the parts are %q", handed)
			}
		}
	}
}

func TestAppendRefuses(t *testing.T) {
	text := some(300)
	b := filled(t, 20, text)
	same(t, b.Arena, "Append", func() {
		is(t, "Append", b.Append(some(32*api.Page)), api.ErrNoMemory)
		is(t, "Append", b.Append("a", some(16*api.Page), "b", some(16*api.Page)), api.ErrNoMemory)
		is(t, "Append", b.Append(noughts(most)), api.ErrArg)
		is(t, "Append", b.Append("a", noughts(most-300)), api.ErrArg)
		is(t, "Append", b.Append(noughts(most-300)), api.ErrNoMemory)
	})
	tells(t, b, text)
	b.Refuse(0)
	is(t, "Append", b.Append(some(20000)), api.ErrNoMemory)
	tells(t, b, text)
	is(t, "Append", b.Append("a", "b"), api.OK)
	tells(t, b, text+"ab")
}

// P24.3

func TestInPartsAndAtOnce(t *testing.T) {
	text := some(30000)
	for _, piece := range []int{1, 7, 100, 1024, 3056, 4096, 10000} {
		r := fresh(t, 100)
		b, c := create(t, r, 1), create(t, r, 2)
		is(t, "Make", b.Make(0), api.OK)
		is(t, "Make", c.Make(0), api.OK)
		var parts []string
		moved, where := 0, b.Objects()[0].At
		for at := 0; at < len(text); at += piece {
			parts = append(parts, text[at:min(at+piece, len(text))])
			is(t, "Append", b.Append(parts[len(parts)-1]), api.OK)
			if now := b.Mark(); now != where {
				moved, where = moved+1, now
			}
		}
		is(t, "Append", c.Append(parts...), api.OK)
		tells(t, b, text)
		tells(t, c, text)
		if moved == 0 {
			t.Error("it was never moved")
		}
	}
}

// Wherever the content stands, the node's record, and the other block's content, stay.
func TestContentsAreApart(t *testing.T) {
	r := fresh(t, 200)
	b, c := create(t, r, 1), create(t, r, 2)
	for _, x := range []Block{b, c} {
		for part, size := range []int{192, 96, 128, 128, 128} {
			is(t, "Fill", x.Part(part).Fill(0, size, byte(part+1)), api.OK)
		}
		x.Set(node.Block, math.MaxUint64)
	}
	record := func(x Block) string {
		s := x.Name()
		for part, size := range []int{192, 96, 128, 128, 128} {
			p, e := x.Part(part).Bytes(0, size)
			is(t, "Bytes", e, api.OK)
			s += p
		}
		return s
	}
	first, second := record(b), record(c)
	is(t, "Make", b.Make(0), api.OK)
	is(t, "Make", c.Make(100), api.OK)
	is(t, "Write", c.Write(0, some(100)), api.OK)
	for _, n := range []int{inFront, 1, inFront + 1, inPage, 20000, 5, 40000, 0, 3} {
		is(t, "Resize", b.Resize(n), api.OK)
		is(t, "Write", b.Write(0, strings.Repeat("\xff", n)), api.OK)
		tells(t, b, strings.Repeat("\xff", n))
		tells(t, c, some(100))
		if record(b) != first || record(c) != second || b.Get(node.Block) != math.MaxUint64 || b.Get(node.Handle) != 1 {
			t.Fatalf("of %d bytes: a record has changed", n)
		}
	}
	// What is handed in, and what is told, is nobody's else.
	s, e := b.Read(0, 3)
	is(t, "Read", e, api.OK)
	is(t, "Write", b.Write(0, "abc"), api.OK)
	if s != "\xff\xff\xff" {
		t.Errorf("what was read is %q", s)
	}
	// A chunk that the content left is given back, so that a node has two at most.
	if len(b.Chunks()) > 2 {
		t.Errorf("its chunks are %v", b.Chunks())
	}
	for _, x := range []Block{b, c} {
		x.Clear()
	}
	r.Trim()
	if census.Count(r.Buddy, census.Taken) != 1 || !census.Right(r.Buddy) {
		t.Errorf("the runs are %v", r.Runs())
	}
}

func TestTheContentIsInTheArenaAlone(t *testing.T) {
	b := filled(t, 40, "abc")
	other := again(t, b.Recycler, b)
	is(t, "Append", other.Append("def"), api.OK)
	tells(t, b, "abcdef")
	twin := again(t, anew(t, b.Clone()), b)
	is(t, "Resize", b.Resize(9000), api.OK)
	is(t, "Write", twin.Write(1, "#"), api.OK)
	tells(t, twin, "a#cdef")
	tells(t, other, "abcdef"+noughts(8994))
	tells(t, again(t, anew(t, b.Arena), b), "abcdef"+noughts(8994))
}

// play is blocks, and what their contents should be; the numbers of a step follow from the one's ahead.
type play struct {
	t    *testing.T
	r    *recycler.Recycler
	all  []Block
	text []string
	x    int
}

func (p *play) number(below int) int {
	p.x = (p.x*1103515245 + 12345) % (1 << 31)
	return p.x / 64 % below
}

// bytes: some, more or fewer.
func (p *play) bytes() string {
	n := []int{p.number(10), p.number(3000), p.number(20000)}[p.number(3)]
	return strings.Repeat(string([]byte{byte(p.number(256)), byte(p.number(256))}), n/2)
}

func (p *play) make() {
	n, e := node.Make(p.r, 0, api.Handle(len(p.all)+1), "n")
	if e != api.OK {
		return
	}
	b, size := Of(n), p.number(6000)
	if b.Make(size) != api.OK {
		b.Clear()
		return
	}
	p.all, p.text = append(p.all, b), append(p.text, noughts(size))
}

// write: some bytes of it, or too many.
func (p *play) write(i int) {
	s, size := p.bytes(), len(p.text[i])
	at := p.number(size + 2)
	if at+len(s) > size {
		is(p.t, "Write", p.all[i].Write(at, s), api.ErrRange)
		return
	}
	is(p.t, "Write", p.all[i].Write(at, s), api.OK)
	p.text[i] = p.text[i][:at] + s + p.text[i][at+len(s):]
}

func (p *play) resize(i int) {
	n := len(p.bytes())
	if e := p.all[i].Resize(n); e == api.OK {
		p.text[i] = (p.text[i] + noughts(max(n-len(p.text[i]), 0)))[:n]
	} else {
		is(p.t, "Resize", e, api.ErrNoMemory)
	}
}

func (p *play) append(i int) {
	s := p.bytes()
	k := p.number(len(s) + 1)
	if e := p.all[i].Append(s[:k], s[k:]); e == api.OK {
		p.text[i] += s
	} else if e != api.ErrArg {
		is(p.t, "Append", e, api.ErrNoMemory)
	}
}

// clone: all is that of a clone of the arena.
func (p *play) clone() {
	p.r = anew(p.t, p.r.Clone())
	for i, b := range p.all {
		p.all[i] = again(p.t, p.r, b)
	}
}

func (p *play) step() {
	if len(p.all) == 0 {
		p.make()
		return
	}
	i := p.number(len(p.all))
	switch k := p.number(30); {
	case k < 2:
		p.make()
	case k == 2:
		p.all[i].Clear()
		p.all, p.text = slices.Delete(p.all, i, i+1), slices.Delete(p.text, i, i+1)
	case k == 3:
		p.clone()
	case k < 13:
		p.write(i)
	case k < 22:
		p.resize(i)
	default:
		p.append(i)
	}
}

func TestAsTheChapterSays(t *testing.T) {
	for _, pages := range []int{3, 20, 60, 200} {
		p := &play{t: t, r: fresh(t, pages), x: pages}
		for range 400 {
			p.step()
			for i, b := range p.all {
				has(t, b, p.text[i])
			}
		}
		for _, b := range p.all {
			b.Clear()
		}
		p.r.Trim()
		if census.Count(p.r.Buddy, census.Taken) != 1 || !census.Right(p.r.Buddy) {
			t.Errorf("of %d pages: the runs are %v", pages, p.r.Runs())
		}
	}
}
