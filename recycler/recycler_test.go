package recycler

import (
	"math"
	"slices"
	"strings"
	"testing"

	"millpond/api"
	"millpond/arena"
	"millpond/bins"
	"millpond/buddy"
	"millpond/census"
	"millpond/chunk"
	"millpond/view"
)

// noOrders: numbers that are no order.
var noOrders = []int{math.MinInt, math.MinInt + 1, -11, -2, -1, 11, 12, 32, 62, 63, 64, 65, 4096, math.MaxInt}

// is: a test ends, if an error is another one than was wanted.
func is(t *testing.T, what string, got, wanted api.Errno) {
	t.Helper()
	if got != wanted {
		t.Fatalf("%s: error %d, wanted %d", what, got, wanted)
	}
}

// of: a view that is there.
func of(t *testing.T, b *buddy.Buddy, at, size int) view.View {
	t.Helper()
	v, e := view.Of(b.Arena, at, size)
	is(t, "view.Of", e, api.OK)
	return v
}

// base: a new buddy of a new arena, whose first run is taken, for recyclers' views; and that run's address.
func base(t *testing.T, cap int) (*buddy.Buddy, int) {
	t.Helper()
	b, e := buddy.New(arena.New(cap))
	is(t, "buddy.New", e, api.OK)
	at, e := b.Alloc(0)
	is(t, "Alloc", e, api.OK)
	return b, at
}

// fresh: a new recycler, of an arena that has so many pages beside the buddy's first one and the recycler's.
func fresh(t *testing.T, pages int) *Recycler {
	t.Helper()
	b, at := base(t, pages+2)
	r, e := New(b, of(t, b, at, 64))
	is(t, "New", e, api.OK)
	return r
}

// take: a chunk that somebody owns, whose header stands.
func take(t *testing.T, r *Recycler, order int, owner uint64) chunk.Chunk {
	t.Helper()
	c, e := r.Take(order, owner)
	if e != api.OK || c.Owner != owner || c.Next != 0 || c.Order < order {
		t.Fatalf("Take(%d, %d): %v, error %d", order, owner, c, e)
	}
	if h, e := chunk.Read(r.Arena, c.At); e != api.OK || h != c {
		t.Fatalf("Take(%d, %d): %v, and in its header %v, error %d", order, owner, c, h, e)
	}
	if k, e := r.Order(c.At); e != api.OK || k != c.Order {
		t.Fatalf("Take(%d, %d): %v, of a run of order %d, error %d", order, owner, c, k, e)
	}
	return c
}

// again: a chunk is taken that should be this one.
func again(t *testing.T, r *Recycler, order int, wanted chunk.Chunk) {
	t.Helper()
	wanted.Owner++
	if c := take(t, r, order, wanted.Owner); c != wanted {
		t.Fatalf("Take(%d): %v, wanted %v", order, c, wanted)
	}
}

// refused: there is no chunk.
func refused(t *testing.T, r *Recycler, order int, owner uint64, wanted api.Errno) {
	t.Helper()
	if c, e := r.Take(order, owner); e != wanted || c != (chunk.Chunk{}) {
		t.Fatalf("Take(%d, %d): %v, error %d, wanted error %d", order, owner, c, e, wanted)
	}
}

// cached: a chunk is given back, and is in its bin.
func cached(t *testing.T, r *Recycler, c chunk.Chunk) {
	t.Helper()
	before := r.Cached()
	is(t, "Give", r.Give(c.At), api.OK)
	h, e := chunk.Read(r.Arena, c.At)
	if e != api.OK || h.Owner != 0 || h.Order != c.Order || r.Cached() != before+1<<c.Order || r.Bins().All(c.Order)[0] != c.At {
		t.Fatalf("%v isn't cached: its header is %v, error %d, cached are %d", c, h, e, r.Cached())
	}
	if k, e := r.Order(c.At); e != api.OK || k != c.Order {
		t.Fatalf("%v is cached, but its run is of order %d, error %d", c, k, e)
	}
}

// freed: a chunk is given back, and its run is free.
func freed(t *testing.T, r *Recycler, c chunk.Chunk) {
	t.Helper()
	before := r.Cached()
	is(t, "Give", r.Give(c.At), api.OK)
	if r.Cached() != before {
		t.Fatalf("%v isn't free: cached are %d, and %d ahead", c, r.Cached(), before)
	}
	gone(t, r, c)
}

// gone: a chunk's run is free, and no header stands there.
func gone(t *testing.T, r *Recycler, c chunk.Chunk) {
	t.Helper()
	if h, e := chunk.Read(r.Arena, c.At); e != api.ErrKind {
		t.Fatalf("of %v a header stands, %v, error %d", c, h, e)
	}
	if tail := strings.Repeat("\x00", 16); tail != bytes(t, r.Arena, c.At+16, 16) {
		t.Fatalf("of %v the header isn't wiped", c)
	}
	if _, e := r.Order(c.At); e != api.ErrNone {
		t.Fatalf("the run of %v isn't free", c)
	}
	if !census.Right(r.Buddy) {
		t.Fatalf("of %v: the buddy isn't right", c)
	}
}

func bytes(t *testing.T, a *arena.Arena, at, n int) string {
	t.Helper()
	s, e := a.Bytes(at, n)
	is(t, "Bytes", e, api.OK)
	return s
}

// whole: all bytes that are committed, page by page.
func whole(t *testing.T, a *arena.Arena) string {
	t.Helper()
	var all strings.Builder
	for first, n := range a.Pages().Rows() {
		all.WriteString(bytes(t, a, first*api.Page, n*api.Page))
	}
	return all.String()
}

// taken: how many pages are in taken runs beside the recycler's own one.
func taken(r *Recycler) int {
	return census.Count(r.Buddy, census.Taken) - 1
}

func TestExample(t *testing.T) {
	r := fresh(t, 18)
	c := take(t, r, 0, 5)
	cached(t, r, c)
	again(t, r, 0, c)
}

func TestNew(t *testing.T) {
	b, at := base(t, 20)
	is(t, "Fill", b.Fill(at, api.Page, 'x'), api.OK)
	for _, size := range []int{64, 65, 100, 4000} {
		r, e := New(b, of(t, b, at+32, size))
		is(t, "New", e, api.OK)
		if r.Keeps() != 16 || r.Cached() != 0 || r.Bins().Count() != 0 || r.Buddy != b {
			t.Fatalf("of %d bytes: it keeps %d, and has %d", size, r.Keeps(), r.Cached())
		}
		if page := bytes(t, b.Arena, at, api.Page); page[:32] != strings.Repeat("x", 32) || page[96:] != strings.Repeat("x", 4000) {
			t.Fatalf("of %d bytes: other bytes than the first 64 of the view are laid", size)
		}
		// What it knew is forgotten, when it is laid anew.
		r.Keep(3)
		cached(t, r, take(t, r, 1, 5))
	}
}

func TestNewAndOpenRefuse(t *testing.T) {
	b, at := base(t, 20)
	is(t, "Fill", b.Fill(at, api.Page, 'x'), api.OK)
	before := whole(t, b.Arena)
	other := of(t, b, at, 64)
	none := func(what string, b *buddy.Buddy, v view.View, wanted api.Errno) {
		t.Helper()
		if r, e := New(b, v); r != nil || e != wanted {
			t.Fatalf("New, %s: error %d, wanted %d", what, e, wanted)
		}
		if r, e := Open(b, v); r != nil || e != wanted {
			t.Fatalf("Open, %s: error %d, wanted %d", what, e, wanted)
		}
	}
	none("of nothing", nil, view.View{}, api.ErrNil)
	none("of no buddy", nil, other, api.ErrNil)
	none("of no buddy, nor room", nil, of(t, b, at, 63), api.ErrNil)
	none("of the zero view", b, view.View{}, api.ErrNil)
	for size := range 64 {
		none("without room", b, of(t, b, at, size), api.ErrRange)
	}
	if whole(t, b.Arena) != before {
		t.Error("something has changed")
	}
	run, e := b.Alloc(1)
	is(t, "Alloc", e, api.OK)
	v := of(t, b, run, 64)
	is(t, "Decommit", b.Decommit(run/api.Page, 1), api.OK)
	none("of bytes that aren't there any more", b, v, api.ErrRange)
}

func TestOpen(t *testing.T) {
	r := fresh(t, 18)
	one, two := take(t, r, 0, 5), take(t, r, 1, 6)
	cached(t, r, one)
	r.Keep(7)
	before := whole(t, r.Arena)
	twin, e := buddy.Open(r.Clone())
	is(t, "buddy.Open", e, api.OK)
	at := r.Base() * api.Page
	for _, b := range []*buddy.Buddy{r.Buddy, twin} {
		o, e := Open(b, of(t, b, at, 64))
		is(t, "Open", e, api.OK)
		if o.Keeps() != 7 || o.Cached() != 1 || !slices.Equal(o.Bins().All(0), []int{one.At}) || o.Buddy != b {
			t.Fatalf("opened anew: it keeps %d, and has %d", o.Keeps(), o.Cached())
		}
		if whole(t, b.Arena) != before {
			t.Fatal("Open changes something")
		}
	}
	o, _ := Open(twin, of(t, twin, at, 100))
	cached(t, o, two)
	again(t, o, 0, one)
	o.Keep(2)
	if r.Cached() != 1 || r.Keeps() != 7 {
		t.Error("what is done over a clone is done here")
	}
	o, _ = Open(r.Buddy, of(t, r.Buddy, at, 64))
	again(t, o, 0, one)
	if r.Cached() != 0 {
		t.Error("of two recyclers of one place one doesn't know what the other one did")
	}
}

func TestItsBuddyAnswers(t *testing.T) {
	r := fresh(t, 18)
	c := take(t, r, 3, 5)
	if r.Base() != 1 || r.Grown() != 16 || r.Cap() != 20 || !slices.Equal(r.Runs(), r.Buddy.Runs()) || c.At != 9*api.Page {
		t.Errorf("base %d, grown %d, cap %d, %v", r.Base(), r.Grown(), r.Cap(), c)
	}
	is(t, "Order", r.Free(c.At+api.Page), api.ErrNone)
}

func TestNil(t *testing.T) {
	var r *Recycler
	refused(t, r, 0, 5, api.ErrNil)
	refused(t, r, -1, 0, api.ErrNil)
	for _, at := range []int{math.MinInt, -1, 0, 1, 4096, math.MaxInt} {
		is(t, "Give", r.Give(at), api.ErrNil)
		r.Keep(at)
	}
	if r.Trim() != 0 || r.Keeps() != 0 || r.Cached() != 0 || r.Bins() != (bins.Bins{}) {
		t.Error("nil tells something")
	}
}

func TestKeeps(t *testing.T) {
	r := fresh(t, 18)
	for _, c := range [][2]int{{0, 0}, {1, 1}, {16, 16}, {-1, 0}, {api.MaxPages, api.MaxPages}, {math.MinInt, 0}, {math.MaxInt, math.MaxInt}, {17, 17}} {
		r.Keep(c[0])
		if r.Keeps() != c[1] {
			t.Errorf("Keep(%d): it keeps %d", c[0], r.Keeps())
		}
	}
}

// As many as are cached may stay; when more are, none does.
func TestKeepLessThanIsCached(t *testing.T) {
	for _, keep := range []int{8, 7, 6, 1, 0, -5} {
		r := fresh(t, 40)
		all := []chunk.Chunk{take(t, r, 2, 5), take(t, r, 1, 5), take(t, r, 0, 5)}
		owned := take(t, r, 1, 6)
		for _, c := range all {
			cached(t, r, c)
		}
		r.Keep(keep)
		if keep >= 7 {
			if r.Cached() != 7 || taken(r) != 9 {
				t.Fatalf("Keep(%d): cached are %d", keep, r.Cached())
			}
			continue
		}
		if r.Cached() != 0 || taken(r) != 2 {
			t.Fatalf("Keep(%d): cached are %d, and taken %d", keep, r.Cached(), taken(r))
		}
		for _, c := range all {
			gone(t, r, c)
		}
		if h, e := chunk.Read(r.Arena, owned.At); e != api.OK || h != owned {
			t.Fatalf("Keep(%d): what is owned is %v, error %d", keep, h, e)
		}
	}
}

func TestTakeEachOrder(t *testing.T) {
	for order := range api.MaxOrder + 1 {
		r := fresh(t, 4<<order)
		for owner := range uint64(3) {
			if c := take(t, r, order, math.MaxUint64-owner); c.Order != order || c.At != (r.Base()+(1+int(owner))<<order)*api.Page {
				t.Errorf("of order %d: %v", order, c)
			}
		}
		if taken(r) != 3<<order || !census.Right(r.Buddy) {
			t.Errorf("of order %d: taken are %d", order, taken(r))
		}
	}
}

func TestTakeRefuses(t *testing.T) {
	r := fresh(t, 40)
	for order := range api.MaxBin {
		cached(t, r, take(t, r, order, 5))
	}
	before := whole(t, r.Arena)
	for _, order := range noOrders {
		for _, owner := range []uint64{0, 1, math.MaxUint64} {
			refused(t, r, order, owner, api.ErrArg)
		}
	}
	for order := range api.MaxOrder + 1 {
		refused(t, r, order, 0, api.ErrArg)
	}
	if whole(t, r.Arena) != before || r.Cached() != 15 {
		t.Error("something has changed")
	}
}

// The newest of the least order that does is taken, whole.
func TestTakeWhatIsCached(t *testing.T) {
	r := fresh(t, 200)
	r.Keep(100)
	var all [][]chunk.Chunk
	for order := range api.MaxBin + 1 {
		all = append(all, []chunk.Chunk{take(t, r, order, 5), take(t, r, order, 5)})
	}
	for order := api.MaxBin; order >= 0; order-- {
		cached(t, r, all[order][1])
		cached(t, r, all[order][0])
	}
	grown := r.Grown()
	again(t, r, 3, all[3][0])
	again(t, r, 3, all[3][1])
	again(t, r, 3, all[4][0])
	again(t, r, 0, all[0][0])
	again(t, r, 0, all[0][1])
	again(t, r, 0, all[1][0])
	again(t, r, 2, all[2][0])
	again(t, r, 0, all[1][1])
	again(t, r, 1, all[2][1])
	again(t, r, 0, all[4][1])
	if r.Cached() != 0 || r.Grown() != grown {
		t.Errorf("cached are %d, and it has grown from %d to %d", r.Cached(), grown, r.Grown())
	}
}

// Of an order that is greater than all that is cached a new one is taken, and what is cached stays.
func TestTakeBesideWhatIsCached(t *testing.T) {
	r := fresh(t, 3000)
	c := take(t, r, 3, 5)
	cached(t, r, c)
	for _, order := range []int{4, 5, 10} {
		if d := take(t, r, order, 6); d.Order != order || d.At == c.At {
			t.Errorf("of order %d: %v", order, d)
		}
	}
	if r.Cached() != 8 {
		t.Errorf("cached are %d", r.Cached())
	}
}

// What was stored in a chunk stays in it, but for its header.
func TestTakeLeavesWhatStandsThere(t *testing.T) {
	r := fresh(t, 18)
	c := take(t, r, 1, 5)
	is(t, "Fill", r.Fill(c.At+api.Head, 2*api.Page-api.Head, 'x'), api.OK)
	cached(t, r, c)
	again(t, r, 1, c)
	if bytes(t, r.Arena, c.At+api.Head, 2*api.Page-api.Head) != strings.Repeat("x", 2*api.Page-api.Head) {
		t.Error("bytes behind the header have changed")
	}
}

// What is cached goes back, and is put together, where there is no memory without it.
func TestTakeWhereAllMustGoBack(t *testing.T) {
	r := fresh(t, 15) // 16 pages are given out, the first one is the recycler's
	var all []chunk.Chunk
	for range 15 {
		all = append(all, take(t, r, 0, 5))
	}
	refused(t, r, 0, 5, api.ErrNoMemory)
	for _, c := range all[3:7] {
		cached(t, r, c)
	}
	cached(t, r, all[0])
	if c := take(t, r, 2, 6); c.At != 5*api.Page || r.Cached() != 0 {
		t.Errorf("%v, and cached are %d", c, r.Cached())
	}
	gone(t, r, all[0])
	again(t, r, 0, chunk.Chunk{At: all[0].At, Owner: 6})
	refused(t, r, 0, 5, api.ErrNoMemory)
}

// What went back stays so, where there is no memory even then.
func TestTakeWhereThereIsNoMemory(t *testing.T) {
	r := fresh(t, 15)
	var all []chunk.Chunk
	for range 15 {
		all = append(all, take(t, r, 0, 5))
	}
	refused(t, r, 1, 6, api.ErrNoMemory)
	for i := 0; i < 15; i += 2 {
		cached(t, r, all[i])
	}
	refused(t, r, 1, 6, api.ErrNoMemory)
	if r.Cached() != 0 || taken(r) != 7 || !census.Right(r.Buddy) {
		t.Errorf("cached are %d, taken %d", r.Cached(), taken(r))
	}
	gone(t, r, all[0])
	for order := 1; order <= api.MaxOrder; order++ {
		refused(t, r, order, 6, api.ErrNoMemory)
	}
	again(t, r, 0, chunk.Chunk{At: all[0].At, Owner: 6})
}

func TestTakeWhereACommitIsRefused(t *testing.T) {
	r := fresh(t, 40)
	r.Refuse(0)
	refused(t, r, 0, 5, api.ErrNoMemory)
	c := take(t, r, 0, 5)
	cached(t, r, c)
	// What is cached is given without a Commit.
	r.Refuse(0)
	again(t, r, 0, c)
	cached(t, r, c)
	d := take(t, r, 1, 6)
	if d.At == c.At || r.Cached() != 0 {
		t.Errorf("%v, and cached are %d", d, r.Cached())
	}
	gone(t, r, c)
	// It is asked for once more only where something went back.
	r.Refuse(0)
	refused(t, r, 3, 7, api.ErrNoMemory)
	take(t, r, 3, 7)
}

func TestGiveWhatIsTooGreat(t *testing.T) {
	for order := range api.MaxOrder + 1 {
		r := fresh(t, 4<<order)
		r.Keep(api.MaxPages)
		c, d := take(t, r, order, 5), take(t, r, order, 6)
		give := cached
		if order > api.MaxBin {
			give = freed
		}
		give(t, r, c)
		give(t, r, d)
		again(t, r, order, map[bool]chunk.Chunk{true: c, false: d}[order > api.MaxBin])
	}
}

// As many pages as it keeps may be cached, and no more.
func TestGiveWhatIsTooMuch(t *testing.T) {
	r := fresh(t, 100)
	great := take(t, r, 4, 5)
	var all []chunk.Chunk
	for range 10 {
		all = append(all, take(t, r, 0, 5), take(t, r, 1, 5))
	}
	cached(t, r, great) // all 16
	freed(t, r, all[0])
	freed(t, r, all[1])
	again(t, r, 4, great)
	cached(t, r, all[2])
	freed(t, r, great)
	for _, c := range all[3:11] {
		cached(t, r, c) // 4 times 2 and 1
	}
	cached(t, r, all[12])
	cached(t, r, all[14]) // the 15th
	freed(t, r, all[11])
	r.Keep(15)
	freed(t, r, all[13])
	r.Keep(16)
	cached(t, r, all[16])
	freed(t, r, all[18])
	r.Keep(17)
	freed(t, r, all[15])
	r.Keep(18)
	cached(t, r, all[17])
}

func TestGiveWhereNothingIsKept(t *testing.T) {
	for _, keep := range []int{0, -1, math.MinInt} {
		r := fresh(t, 40)
		r.Keep(keep)
		for order := range 5 {
			freed(t, r, take(t, r, order, 5))
		}
		if taken(r) != 0 {
			t.Errorf("taken are %d", taken(r))
		}
	}
	r := fresh(t, 40)
	r.Keep(3)
	freed(t, r, take(t, r, 2, 5))
	cached(t, r, take(t, r, 1, 5))
}

func TestGiveRefuses(t *testing.T) {
	r := fresh(t, 98)
	c, d := take(t, r, 1, 5), take(t, r, 5, 5)
	cached(t, r, c)
	freed(t, r, d)
	run, e := r.Alloc(0)
	is(t, "Alloc", e, api.OK)
	is(t, "Write", chunk.Write(r.Arena, chunk.Chunk{At: run, Next: 3}), api.OK)
	before := whole(t, r.Arena)
	refused := func(at int, wanted api.Errno) {
		t.Helper()
		if e := r.Give(at); e != wanted || whole(t, r.Arena) != before {
			t.Fatalf("Give(%d): error %d, wanted %d", at, e, wanted)
		}
	}
	for _, at := range []int{math.MinInt, -4096, -1, r.Committed()*api.Page - 31, r.Committed() * api.Page, 100 * api.Page, api.Most, math.MaxInt - 31, math.MaxInt} {
		refused(at, api.ErrRange)
	}
	for _, at := range []int{0, 1, api.Page, run + 1, c.At + 1, c.At - 1, c.At + api.Head, c.At + api.Page, d.At, r.Committed()*api.Page - 32} {
		refused(at, api.ErrKind)
	}
	refused(c.At, api.ErrOrder)
	refused(run, api.ErrOrder)
	is(t, "Write", chunk.Write(r.Arena, chunk.Chunk{At: run, Owner: 3}), api.OK)
	is(t, "Give", r.Give(run), api.OK)
	if !slices.Equal(r.Bins().All(0), []int{run}) {
		t.Errorf("a run that became a chunk: %v", r.Bins().All(0))
	}
}

// A header in the midst of a run is of no run that could be free.
func TestGiveWhereNoRunBegins(t *testing.T) {
	r := fresh(t, 40)
	run, e := r.Alloc(1)
	is(t, "Alloc", e, api.OK)
	is(t, "Write", chunk.Write(r.Arena, chunk.Chunk{At: run + api.Page, Owner: 3}), api.OK)
	r.Keep(0)
	before := whole(t, r.Arena)
	is(t, "Give", r.Give(run+api.Page), api.ErrNone)
	if whole(t, r.Arena) != before {
		t.Error("something has changed")
	}
}

func TestTrim(t *testing.T) {
	r := fresh(t, 200)
	if r.Trim() != 0 {
		t.Error("of nothing cached something goes back")
	}
	r.Keep(100)
	var all []chunk.Chunk
	for order := range 5 {
		all = append(all, take(t, r, order, 5), take(t, r, order, 5))
	}
	owned := take(t, r, 0, 7)
	for _, c := range all {
		cached(t, r, c)
	}
	if n := r.Trim(); n != 62 || r.Cached() != 0 || r.Keeps() != 100 || taken(r) != 1 {
		t.Errorf("Trim: %d, cached are %d, taken %d", n, r.Cached(), taken(r))
	}
	for _, c := range all {
		gone(t, r, c)
	}
	for order := range 5 {
		if left := r.Bins().All(order); len(left) > 0 {
			t.Errorf("of order %d: %v", order, left)
		}
	}
	if r.Trim() != 0 {
		t.Error("something goes back twice")
	}
	is(t, "Give", r.Give(owned.At), api.OK)
	if r.Trim() != 1 || taken(r) != 0 {
		t.Errorf("taken are %d", taken(r))
	}
	if r.Shrink() == 0 || r.Grown() != 1 {
		t.Errorf("when all is given back it has grown to %d", r.Grown())
	}
}

// The bins that are told are those that it has.
func TestBins(t *testing.T) {
	r := fresh(t, 18)
	c, d := take(t, r, 2, 5), take(t, r, 0, 5)
	b := r.Bins()
	cached(t, r, c)
	cached(t, r, d)
	if k, ok := b.Least(0); k != 0 || !ok || b.Count() != 5 || b.Arena != r.Arena {
		t.Errorf("Least(0): %d, %v, Count: %d", k, ok, b.Count())
	}
	if got, ok := b.Pop(2); !ok || got.At != c.At || r.Cached() != 1 {
		t.Errorf("%v, and cached are %d", got, r.Cached())
	}
	is(t, "Push", b.Push(c.At), api.OK)
	again(t, r, 1, c)
}
