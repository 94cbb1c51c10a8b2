package bins

import (
	"math"
	"slices"
	"testing"

	"millpond/api"
	"millpond/arena"
	"millpond/chunk"
	"millpond/view"
)

// far: numbers that are no order, and no address, of any of these tests; some of them, times eight, go round to a place of a view.
var far = []int{math.MinInt, math.MinInt + 1, -1 << 61, -4096, -8, -2, -1, 1 << 32, 1 << 60, 1 << 61, 1<<61 + 1, math.MaxInt - 4095, math.MaxInt - 1, math.MaxInt}

// is: a test ends, if an error is another one than was wanted.
func is(t *testing.T, what string, got, wanted api.Errno) {
	t.Helper()
	if got != wanted {
		t.Fatalf("%s: error %d, wanted %d", what, got, wanted)
	}
}

// pages: an arena, whose pages are all committed.
func pages(t *testing.T, cap int) *arena.Arena {
	t.Helper()
	a := arena.New(cap)
	is(t, "Commit", a.Commit(0, cap), api.OK)
	return a
}

// bins: those of a view.
func bins(t *testing.T, a *arena.Arena, at, size int) Bins {
	t.Helper()
	v, e := view.Of(a, at, size)
	is(t, "view.Of", e, api.OK)
	return Open(v)
}

// write: a chunk's header stands.
func write(t *testing.T, a *arena.Arena, c chunk.Chunk) {
	t.Helper()
	is(t, "chunk.Write", chunk.Write(a, c), api.OK)
}

// push: a chunk of that order that nobody owns is in its bin.
func push(t *testing.T, b Bins, at, order int) {
	t.Helper()
	write(t, b.Arena, chunk.Chunk{At: at, Order: order})
	is(t, "Push", b.Push(at), api.OK)
}

// pop: the newest chunk of a bin should be that at an address, which has no next one then.
func pop(t *testing.T, b Bins, order, wanted int) {
	t.Helper()
	c, ok := b.Pop(order)
	if !ok || c != (chunk.Chunk{At: wanted, Order: order}) {
		t.Fatalf("Pop(%d): %v, %v, wanted that at %d", order, c, ok, wanted)
	}
	if h, e := chunk.Read(b.Arena, wanted); e != api.OK || h != c {
		t.Fatalf("Pop(%d): in its header is %v, error %d, wanted %v", order, h, e, c)
	}
}

// tells: have the bins of the orders from 0 on these chunks, and no other order one?
func tells(t *testing.T, what string, b Bins, wanted ...[]int) {
	t.Helper()
	count := 0
	for order := -2; order <= api.MaxOrder+2; order++ {
		var all []int
		if order >= 0 && order < len(wanted) {
			all = wanted[order]
			count += len(all) << order
		}
		if got := b.All(order); !slices.Equal(got, all) {
			t.Fatalf("%s: All(%d) is %v, wanted %v", what, order, got, all)
		}
		least := max(order, 0)
		for least < len(wanted) && len(wanted[least]) == 0 {
			least++
		}
		some := least < len(wanted)
		if !some {
			least = 0
		}
		if got, ok := b.Least(order); got != least || ok != some {
			t.Fatalf("%s: Least(%d) is %d, %v, wanted %d, %v", what, order, got, ok, least, some)
		}
	}
	if got := b.Count(); got != count {
		t.Fatalf("%s: Count is %d, wanted %d", what, got, count)
	}
}

// empty: is there nothing in bins, whatever is asked?
func empty(t *testing.T, what string, b Bins) {
	t.Helper()
	tells(t, what, b)
	for order := -2; order <= api.MaxOrder+2; order++ {
		if c, ok := b.Pop(order); ok || c != (chunk.Chunk{}) {
			t.Fatalf("%s: Pop(%d): %v, %v", what, order, c, ok)
		}
	}
}

func TestExample(t *testing.T) {
	b := bins(t, pages(t, 3), 0, 40)
	push(t, b, 4096, 0)
	push(t, b, 8192, 0)
	tells(t, "both", b, []int{8192, 4096})
	pop(t, b, 0, 8192)
	tells(t, "one", b, []int{4096})
}

func TestOpen(t *testing.T) {
	a := pages(t, 3)
	for size := 40; size < 100; size++ {
		b := bins(t, a, 4090, size)
		if b.At() != 4090 || b.Size() != size || b.Arena != a || b.Cap() != 3 {
			t.Errorf("the bins of %d bytes aren't those of their view", size)
		}
		empty(t, "of noughts", b)
	}
}

func TestWhatWasPutInLastComesOutFirst(t *testing.T) {
	for order := range api.MaxBin + 1 {
		span := api.Page << order
		b := bins(t, pages(t, 7<<order), 100, 40)
		wanted := make([][]int, order+1)
		for _, i := range []int{3, 1, 5, 2, 6, 4} {
			push(t, b, i*span, order)
			wanted[order] = slices.Insert(wanted[order], 0, i*span)
			tells(t, "put in", b, wanted...)
		}
		for _, i := range []int{4, 6, 2} {
			pop(t, b, order, i*span)
			wanted[order] = wanted[order][1:]
			tells(t, "taken out", b, wanted...)
		}
		push(t, b, 6*span, order)
		pop(t, b, order, 6*span)
		for _, i := range []int{5, 1, 3} {
			pop(t, b, order, i*span)
		}
		empty(t, "all taken out", b)
	}
}

func TestEachOrderHasItsBin(t *testing.T) {
	a := pages(t, 70)
	b := bins(t, a, 0, 40)
	at := []int{4096, 8192, 16384, 32768, 65536, 135168}
	for order := range 5 {
		push(t, b, at[order], order)
	}
	push(t, b, at[5], 2)
	tells(t, "one each", b, []int{at[0]}, []int{at[1]}, []int{at[5], at[2]}, []int{at[3]}, []int{at[4]})
	pop(t, b, 3, at[3])
	pop(t, b, 1, at[1])
	tells(t, "some less", b, []int{at[0]}, nil, []int{at[5], at[2]}, nil, []int{at[4]})
	pop(t, b, 2, at[5])
	pop(t, b, 0, at[0])
	tells(t, "more less", b, nil, nil, []int{at[2]}, nil, []int{at[4]})
	pop(t, b, 2, at[2])
	tells(t, "the greatest is left", b, nil, nil, nil, nil, []int{at[4]})
	pop(t, b, 4, at[4])
	empty(t, "all taken out", b)
}

// A chunk's address may be 0, which is no next one's.
func TestTheFirstPageAndTheLastOne(t *testing.T) {
	for _, order := range [][]int{{0, 1, 2}, {0, 2, 1}, {1, 0, 2}, {1, 2, 0}, {2, 0, 1}, {2, 1, 0}} {
		a := arena.New(api.MaxPages)
		is(t, "Commit", a.Commit(0, 2), api.OK)
		is(t, "Commit", a.Commit(api.MaxPages-1, 1), api.OK)
		b := bins(t, a, 200, 40)
		at := []int{0, 4096, api.Most - 4096}
		var wanted []int
		for _, i := range order {
			push(t, b, at[i], 0)
			wanted = slices.Insert(wanted, 0, at[i])
			tells(t, "put in", b, wanted)
		}
		for i := range wanted {
			tells(t, "ahead", b, wanted[i:])
			pop(t, b, 0, wanted[i])
		}
		empty(t, "all taken out", b)
	}
}

func TestPushRefuses(t *testing.T) {
	a := pages(t, 40)
	b := bins(t, a, 0, 40)
	push(t, b, 4096, 0)
	push(t, b, 8192, 3)
	is(t, "Decommit", a.Decommit(39, 1), api.OK)
	for order := range api.MaxOrder + 1 {
		write(t, a, chunk.Chunk{At: (10 + order) * 4096, Order: order, Owner: 1})
		write(t, a, chunk.Chunk{At: (25 + order) * 4096, Order: order, Owner: math.MaxUint64, Next: 4096})
	}
	for order := 5; order <= api.MaxOrder; order++ {
		write(t, a, chunk.Chunk{At: (30 + order - 5) * 4096, Order: order})
	}
	before := whole(t, a, 39)
	refused := func(at int, wanted api.Errno) {
		t.Helper()
		if e := b.Push(at); e != wanted || whole(t, a, 39) != before {
			t.Fatalf("Push(%d): error %d, wanted %d", at, e, wanted)
		}
	}
	for _, at := range append(far, 39*4096-31, 39*4096-1, 39*4096, 40*4096-32, 40*4096) {
		refused(at, api.ErrRange)
	}
	for _, at := range []int{0, 1, 4095, 4097, 4096 + 32, 3 * 4096, 9 * 4096, 39*4096 - 32} {
		refused(at, api.ErrKind)
	}
	for order := range api.MaxOrder + 1 {
		wanted := api.ErrOrder
		if order > api.MaxBin {
			wanted = api.ErrArg
			refused((30+order-5)*4096, wanted)
		}
		refused((10+order)*4096, wanted)
		if order < 5 {
			refused((25+order)*4096, wanted)
		}
	}
	tells(t, "behind it", b, []int{4096}, nil, nil, []int{8192})
}

// whole: the bytes of an arena's first pages.
func whole(t *testing.T, a *arena.Arena, pages int) string {
	t.Helper()
	s, e := a.Bytes(0, pages*api.Page)
	is(t, "Bytes", e, api.OK)
	return s
}

func TestAViewWithoutRoom(t *testing.T) {
	a := pages(t, 2)
	b := bins(t, a, 100, 40)
	push(t, b, 4096, 0)
	before := whole(t, a, 2)
	for size := range 40 {
		small := bins(t, a, 100, size)
		empty(t, "without room", small)
		for _, at := range append(far, 0, 1, 4096, 8192) {
			is(t, "Push", small.Push(at), api.ErrRange)
		}
	}
	if whole(t, a, 2) != before {
		t.Error("something has changed")
	}
	tells(t, "with room", b, []int{4096})
	pop(t, b, 0, 4096)
}

func TestZeroBins(t *testing.T) {
	for _, b := range []Bins{{}, Open(view.View{})} {
		empty(t, "of the zero view", b)
		for _, at := range append(far, 0, 1, 4096) {
			is(t, "Push", b.Push(at), api.ErrNil)
		}
	}
}

func TestNoSuchBin(t *testing.T) {
	b := bins(t, pages(t, 70), 0, 64)
	// What is behind the 40 bytes doesn't count.
	is(t, "Fill", b.Fill(40, 24, 1), api.OK)
	for order := range 5 {
		push(t, b, 4096<<order, order)
	}
	before := whole(t, b.Arena, 70)
	for _, order := range append(far, 5, 6, 7, 10, 11) {
		if c, ok := b.Pop(order); ok || c != (chunk.Chunk{}) {
			t.Errorf("Pop(%d): %v, %v", order, c, ok)
		}
		if all := b.All(order); len(all) != 0 {
			t.Errorf("All(%d): %v", order, all)
		}
		k, ok := b.Least(order)
		if k != 0 || ok != (order < 0) {
			t.Errorf("Least(%d): %d, %v", order, k, ok)
		}
	}
	if whole(t, b.Arena, 70) != before {
		t.Error("something has changed")
	}
	tells(t, "behind it", b, []int{4096}, []int{8192}, []int{16384}, []int{32768}, []int{65536})
}

func TestOnlyHeadsAndHeadersAreStoredIn(t *testing.T) {
	a := pages(t, 8)
	is(t, "Fill", a.Fill(0, 8*api.Page, 'x'), api.OK)
	b := bins(t, a, 50, 100)
	is(t, "Fill", b.Fill(0, 40, 0), api.OK)
	for _, page := range []int{1, 2, 5} {
		push(t, b, page*api.Page, 0)
	}
	push(t, b, 6*api.Page, 1)
	push(t, b, 3*api.Page, 1)
	pop(t, b, 1, 3*api.Page)
	pop(t, b, 0, 5*api.Page)
	for at, x := range []byte(whole(t, a, 8)) {
		header := at%api.Page < api.Head && at/api.Page%4 != 0 && at/api.Page != 7
		if !header && (at < 50 || at >= 90) && x != 'x' {
			t.Fatalf("the byte %d is %d", at, x)
		}
	}
	// What is stored behind a header is nothing to its bin.
	is(t, "Fill", a.Fill(api.Page+api.Head, api.Page-api.Head, 'y'), api.OK)
	tells(t, "behind it", b, []int{2 * api.Page, api.Page}, []int{6 * api.Page})
	pop(t, b, 0, 2*api.Page)
	pop(t, b, 0, api.Page)
}

// A chunk that somebody had keeps nothing of it: Next is the bins'.
func TestNextIsTheBins(t *testing.T) {
	b := bins(t, pages(t, 4), 0, 40)
	for _, next := range []int{0, 1, 4096, 8192, 12288, math.MaxInt} {
		for _, at := range []int{4096, 8192} {
			write(t, b.Arena, chunk.Chunk{At: at, Next: next})
			is(t, "Push", b.Push(at), api.OK)
		}
		tells(t, "put in", b, []int{8192, 4096})
		pop(t, b, 0, 8192)
		pop(t, b, 0, 4096)
		empty(t, "taken out", b)
	}
}

func TestAskingChangesNothing(t *testing.T) {
	b := bins(t, pages(t, 9), 0, 40)
	push(t, b, 4096, 0)
	push(t, b, 8192, 0)
	push(t, b, 16384, 2)
	before := whole(t, b.Arena, 9)
	tells(t, "once", b, []int{8192, 4096}, nil, []int{16384})
	tells(t, "and once more", b, []int{8192, 4096}, nil, []int{16384})
	if whole(t, b.Arena, 9) != before {
		t.Error("something has changed")
	}
}

func TestAllIsNewMemory(t *testing.T) {
	b := bins(t, pages(t, 3), 0, 40)
	push(t, b, 4096, 0)
	push(t, b, 8192, 0)
	one, two := b.All(0), b.All(0)
	one[0], one[1] = 7, 7
	if !slices.Equal(two, []int{8192, 4096}) {
		t.Errorf("another answer is %v", two)
	}
	tells(t, "behind it", b, two)
}

func TestBinsAreInTheArenaAlone(t *testing.T) {
	a := pages(t, 9)
	b, again := bins(t, a, 64, 40), bins(t, a, 64, 50)
	push(t, b, 4096, 0)
	push(t, again, 8192, 0)
	push(t, b, 16384, 2)
	twin := bins(t, a.Clone(), 64, 40)
	pop(t, b, 0, 8192)
	push(t, twin, 12288, 0)
	for what, c := range map[string]Bins{"here": b, "opened ahead": again, "opened anew": bins(t, a, 64, 40)} {
		tells(t, what, c, []int{4096}, nil, []int{16384})
	}
	tells(t, "over a clone", twin, []int{12288, 8192, 4096}, nil, []int{16384})
	pop(t, twin, 0, 12288)
	pop(t, twin, 0, 8192)
	tells(t, "over a clone", twin, []int{4096}, nil, []int{16384})
}

func TestBinsThatAreNotThereAnyMore(t *testing.T) {
	a := pages(t, 4)
	b := bins(t, a, 2*api.Page-20, 40)
	push(t, b, 0, 0)
	is(t, "Decommit", a.Decommit(2, 1), api.OK)
	empty(t, "not there", b)
	for _, at := range append(far, 0, 1, 4096, 8192) {
		is(t, "Push", b.Push(at), api.ErrRange)
	}
}

// Nothing is promised of what is told then, but that each call ends.
func TestEachCallEndsWhateverStandsThere(t *testing.T) {
	use := func(b Bins) {
		for order := -1; order < 7; order++ {
			b.All(order)
			b.Least(order)
			b.Push(4096 * order)
			b.Count()
			b.Pop(order)
			b.All(order)
		}
	}
	for _, x := range []uint64{1, 4096, api.Most, math.MaxInt64, 1 << 63, math.MaxUint64, 0x0101010101010101} {
		a := pages(t, 3)
		for at := 0; at < 3*api.Page; at += 8 {
			is(t, "Store", a.Store(at, 8, x), api.OK)
		}
		use(bins(t, a, 8, 64))
	}
	// A chunk that is put in again, and one whose header is gone.
	b := bins(t, pages(t, 4), 0, 40)
	push(t, b, 4096, 0)
	push(t, b, 4096, 0)
	is(t, "Push", b.Push(4096), api.OK)
	use(b)
	push(t, b, 8192, 0)
	push(t, b, 12288, 0)
	is(t, "Wipe", chunk.Wipe(b.Arena, 8192), api.OK)
	use(b)
}

// play is bins, and what they should have; the numbers of a step follow from the one's ahead.
type play struct {
	t    *testing.T
	b    Bins
	has  [][]int     // by the orders, the newest first
	free map[int]int // the orders of the chunks that are in no bin, by their pages
	x    int
}

func (p *play) number(below int) int {
	p.x = (p.x*1103515245 + 12345) % (1 << 31)
	return p.x / 64 % below
}

// step: one chunk is put in, or taken out; now and then they are opened anew, over a clone, too.
func (p *play) step(pages int) {
	switch n := p.number(20); {
	case n < 10:
		page := 1 + p.number(pages-1)
		order, out := p.free[page]
		if !out {
			return
		}
		push(p.t, p.b, page*api.Page, order)
		delete(p.free, page)
		p.has[order] = slices.Insert(p.has[order], 0, page*api.Page)
	case n < 18:
		order := p.number(5)
		if len(p.has[order]) == 0 {
			return
		}
		at := p.has[order][0]
		pop(p.t, p.b, order, at)
		p.has[order] = p.has[order][1:]
		p.free[at/api.Page] = p.number(5)
	case n == 18:
		p.b = bins(p.t, p.b.Arena, p.b.At(), 40+p.number(20))
	case n == 19:
		p.b = bins(p.t, p.b.Arena.Clone(), p.b.At(), p.b.Size())
	}
}

func TestAsTheChapterSays(t *testing.T) {
	for _, pages := range []int{2, 5, 40} {
		a := arena.New(pages)
		is(t, "Commit", a.Commit(0, pages), api.OK)
		p := &play{t, bins(t, a, 8*pages, 40), make([][]int, 5), map[int]int{}, pages}
		for page := 1; page < pages; page++ {
			p.free[page] = p.number(5)
		}
		for range 1500 {
			p.step(pages)
			tells(t, "a step", p.b, p.has...)
		}
		for order, all := range p.has {
			for _, at := range all {
				pop(t, p.b, order, at)
			}
		}
		empty(t, "all taken out", p.b)
	}
}
