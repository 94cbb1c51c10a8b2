package buddy

import (
	"math"
	"slices"
	"testing"

	"millpond/api"
	"millpond/arena"
)

// noOrders: numbers that are no order.
var noOrders = []int{math.MinInt, math.MinInt + 1, -11, -2, -1, 11, 12, 32, 62, 63, 64, 65, 4096, math.MaxInt}

// is: a test ends, if an error is another one than was wanted.
func is(t *testing.T, what string, got, wanted api.Errno) {
	t.Helper()
	if got != wanted {
		t.Fatalf("%s: error %d, wanted %d", what, got, wanted)
	}
}

// fresh: a new buddy of a new arena.
func fresh(t *testing.T, cap int) *Buddy {
	t.Helper()
	b, e := New(arena.New(cap))
	is(t, "New", e, api.OK)
	return b
}

// alloc: a run is taken, and should be at an address.
func alloc(t *testing.T, b *Buddy, order, wanted int) {
	t.Helper()
	at, e := b.Alloc(order)
	if at != wanted || e != api.OK {
		t.Fatalf("Alloc(%d): %d, error %d, wanted %d", order, at, e, wanted)
	}
}

// refused: no run is taken.
func refused(t *testing.T, b *Buddy, order int, wanted api.Errno) {
	t.Helper()
	at, e := b.Alloc(order)
	if at != 0 || e != wanted {
		t.Fatalf("Alloc(%d): %d, error %d, wanted error %d", order, at, e, wanted)
	}
}

// runs: are they these, by the numbers of their pages, and is no page beside them and the buddy's own ones committed?
func runs(t *testing.T, what string, b *Buddy, wanted ...Run) {
	t.Helper()
	all := slices.Clone(wanted)
	grown := 0
	for i, r := range all {
		all[i].At = (b.Base() + r.At) * api.Page
		grown = r.At + 1<<r.Order
	}
	if got := b.Runs(); !slices.Equal(got, all) {
		t.Fatalf("%s: runs %v, wanted %v", what, got, all)
	}
	if b.Grown() != grown || b.Committed() != b.Base()+grown {
		t.Fatalf("%s: grown to %d, %d committed, wanted %d", what, b.Grown(), b.Committed(), grown)
	}
	if n, _ := b.Pages().Count(0, b.Base()+grown); n != b.Base()+grown {
		t.Fatalf("%s: of its pages only %d are committed", what, n)
	}
}

func TestBase(t *testing.T) {
	for _, c := range []struct{ cap, base int }{{2, 1}, {9, 1}, {100, 1}, {3839, 1}, {3840, 1}, {3841, 2}, {7936, 2}, {7937, 3}, {api.MaxPages - 1, 257}, {api.MaxPages, 257}} {
		b := fresh(t, c.cap)
		if b.Base() != c.base || b.Grown() != 0 || b.Committed() != c.base || b.Cap() != c.cap {
			t.Errorf("of cap %d: base %d, grown to %d, %d committed", c.cap, b.Base(), b.Grown(), b.Committed())
		}
		runs(t, "of a new one", b)
		if b.Shrink() != 0 || b.Committed() != c.base {
			t.Errorf("of cap %d: a new one shrinks", c.cap)
		}
	}
}

func TestNewRefuses(t *testing.T) {
	none := func(what string, a *arena.Arena, wanted api.Errno) {
		t.Helper()
		if b, e := New(a); b != nil || e != wanted {
			t.Fatalf("%s: error %d, wanted %d", what, e, wanted)
		}
	}
	none("of nil", nil, api.ErrNil)
	for _, cap := range []int{-1, 0, 1} {
		a := arena.New(cap)
		a.Commit(0, 1)
		a.Refuse(0)
		none("without a page more than its own", a, api.ErrRange)
	}
	for _, page := range []int{0, 1} {
		a := arena.New(4000)
		is(t, "Commit", a.Commit(page, 1), api.OK)
		none("of a page that is committed", a, api.ErrThere)
		if a.Committed() != 1 {
			t.Errorf("%d pages are committed", a.Committed())
		}
	}
	a := arena.New(2)
	a.Refuse(0)
	none("of an arena that refuses", a, api.ErrNoMemory)
	if a.Committed() != 0 {
		t.Errorf("%d pages are committed", a.Committed())
	}
	b, e := New(a)
	is(t, "New", e, api.OK)
	alloc(t, b, 0, 4096)
	none("of an arena that has one", a, api.ErrThere)
	runs(t, "behind it", b, Run{0, 0, true})
}

func TestOpenRefuses(t *testing.T) {
	none := func(what string, a *arena.Arena, wanted api.Errno) {
		t.Helper()
		if b, e := Open(a); b != nil || e != wanted {
			t.Fatalf("%s: error %d, wanted %d", what, e, wanted)
		}
	}
	none("of nil", nil, api.ErrNil)
	for _, cap := range []int{0, 1, 2, 9, 3840, 3841, 7937, api.MaxPages} {
		a := arena.New(cap)
		none("of no pages", a, api.ErrKind)
		a.Commit(0, min(cap, 300))
		none("of noughts", a, api.ErrKind)
		for _, x := range []byte{1, 'x', 255} {
			a.Fill(0, api.Page*min(cap, 300), x)
			none("of all the same", a, api.ErrKind)
		}
	}
	// The first page alone isn't all that this one has for itself.
	b := fresh(t, 4000)
	is(t, "Decommit", b.Decommit(1, 1), api.OK)
	none("of half of its own pages", b.Arena, api.ErrKind)
	is(t, "Decommit", b.Decommit(0, 1), api.OK)
	is(t, "Commit", b.Commit(0, 2), api.OK)
	none("of own pages that came anew", b.Arena, api.ErrKind)
}

func TestNilBuddy(t *testing.T) {
	var b *Buddy
	if b.Base() != 0 || b.Grown() != 0 || b.Shrink() != 0 || len(b.Runs()) != 0 {
		t.Error("nil tells something")
	}
	for _, order := range append(noOrders, 0, 10) {
		refused(t, b, order, api.ErrNil)
		is(t, "Grow", b.Grow(order), api.ErrNil)
	}
	for _, at := range []int{math.MinInt, -1, 0, 4096} {
		is(t, "Free", b.Free(at), api.ErrNil)
		order, e := b.Order(at)
		if order != 0 || e != api.ErrNil {
			t.Errorf("Order: %d, error %d", order, e)
		}
	}
}

func TestExample(t *testing.T) {
	b := fresh(t, 9)
	alloc(t, b, 1, 4096)
	alloc(t, b, 0, 12288)
	runs(t, "both", b, Run{0, 1, true}, Run{2, 0, true})
}

func TestHalves(t *testing.T) {
	b := fresh(t, 40)
	is(t, "Grow", b.Grow(4), api.OK)
	runs(t, "grown", b, Run{0, 4, false})
	alloc(t, b, 1, 4096)
	runs(t, "halved", b, Run{0, 1, true}, Run{2, 1, false}, Run{4, 2, false}, Run{8, 3, false})
	alloc(t, b, 2, 5*4096)
	alloc(t, b, 0, 3*4096)
	runs(t, "halved again", b, Run{0, 1, true}, Run{2, 0, true}, Run{3, 0, false}, Run{4, 2, true}, Run{8, 3, false})
	alloc(t, b, 3, 9*4096)
	alloc(t, b, 1, 17*4096)
	runs(t, "grown again", b, Run{0, 1, true}, Run{2, 0, true}, Run{3, 0, false}, Run{4, 2, true}, Run{8, 3, true}, Run{16, 1, true})
}

func TestTakesTheFirstOfTheLeastOrder(t *testing.T) {
	b := fresh(t, 40)
	for page := range 16 {
		alloc(t, b, 0, (1+page)*4096)
	}
	for _, page := range []int{12, 13, 6, 7, 2, 15, 9} {
		is(t, "Free", b.Free((1+page)*4096), api.OK)
	}
	// Free are 2, 9 and 15, and, of the order 1, 6 and 12.
	alloc(t, b, 1, 7*4096)
	alloc(t, b, 0, 3*4096)
	alloc(t, b, 0, 10*4096)
	alloc(t, b, 0, 16*4096)
	alloc(t, b, 0, 13*4096)
	alloc(t, b, 0, 14*4096)
	alloc(t, b, 0, 17*4096)
}

func TestPutTogether(t *testing.T) {
	b := fresh(t, 40)
	is(t, "Grow", b.Grow(3), api.OK)
	for page := range 8 {
		alloc(t, b, 0, (1+page)*4096)
	}
	free := func(page int) {
		t.Helper()
		is(t, "Free", b.Free((1+page)*4096), api.OK)
	}
	taken := func(page int) Run { return Run{page, 0, true} }
	free(1)
	free(2)
	runs(t, "side by side, but no pair", b, taken(0), Run{1, 0, false}, Run{2, 0, false}, taken(3), taken(4), taken(5), taken(6), taken(7))
	free(3)
	runs(t, "a pair, the second one last", b, taken(0), Run{1, 0, false}, Run{2, 1, false}, taken(4), taken(5), taken(6), taken(7))
	free(0)
	runs(t, "a pair, the first one last, and so on", b, Run{0, 2, false}, taken(4), taken(5), taken(6), taken(7))
	free(6)
	free(5)
	free(7)
	runs(t, "of another order", b, Run{0, 2, false}, taken(4), Run{5, 0, false}, Run{6, 1, false})
	free(4)
	runs(t, "all", b, Run{0, 3, false})
}

func TestNoRunIsOfAnOrderAboveTheGreatest(t *testing.T) {
	b := fresh(t, 5000)
	is(t, "Grow", b.Grow(10), api.OK)
	is(t, "Grow", b.Grow(10), api.OK)
	runs(t, "two of order 10", b, Run{0, 10, false}, Run{1024, 10, false})
	alloc(t, b, 9, 2*4096)
	alloc(t, b, 10, 1026*4096)
	is(t, "Free", b.Free(2*4096), api.OK)
	is(t, "Free", b.Free(1026*4096), api.OK)
	runs(t, "put together", b, Run{0, 10, false}, Run{1024, 10, false})
}

func TestGrowLeavesFreeRunsBetween(t *testing.T) {
	b := fresh(t, 40)
	alloc(t, b, 0, 4096)
	is(t, "Grow", b.Grow(3), api.OK)
	between := []Run{{0, 0, true}, {1, 0, false}, {2, 1, false}, {4, 2, false}, {8, 3, false}}
	runs(t, "between", b, between...)
	alloc(t, b, 4, 17*4096)
	runs(t, "none between", b, append(between, Run{16, 4, true})...)

	b = fresh(t, 40)
	is(t, "Grow", b.Grow(0), api.OK)
	is(t, "Grow", b.Grow(2), api.OK)
	runs(t, "put together with what was free", b, Run{0, 3, false})
	is(t, "Grow", b.Grow(0), api.OK)
	runs(t, "one more", b, Run{0, 3, false}, Run{8, 0, false})
	alloc(t, b, 4, 4096)
	runs(t, "all of it a run", b, Run{0, 4, true}, Run{16, 4, false})
}

func TestGrowsByARunThatIsNotTheOneTaken(t *testing.T) {
	b := fresh(t, 40)
	alloc(t, b, 1, 4096)
	alloc(t, b, 0, 3*4096)
	is(t, "Free", b.Free(3*4096), api.OK)
	// To grow by a run of the order 1, from 4 on, makes one from 2 on, which comes ahead.
	alloc(t, b, 1, 3*4096)
	runs(t, "grown", b, Run{0, 1, true}, Run{2, 1, true}, Run{4, 1, false})
}

func TestGrowRefuses(t *testing.T) {
	b := fresh(t, 9)
	alloc(t, b, 0, 4096)
	before := []Run{{0, 0, true}}
	for _, order := range noOrders {
		refused(t, b, order, api.ErrArg)
		is(t, "Grow", b.Grow(order), api.ErrArg)
	}
	for order := 3; order <= 10; order++ {
		refused(t, b, order, api.ErrNoMemory)
		is(t, "Grow", b.Grow(order), api.ErrNoMemory)
	}
	runs(t, "no room", b, before...)
	b.Refuse(0)
	refused(t, b, 2, api.ErrNoMemory)
	runs(t, "refused", b, before...)
	b.Refuse(0)
	is(t, "Grow", b.Grow(2), api.ErrNoMemory)
	runs(t, "refused", b, before...)
	// What lies between and the run are one Commit.
	b.Refuse(1)
	is(t, "Grow", b.Grow(2), api.OK)
	before = append(before, Run{1, 0, false}, Run{2, 1, false}, Run{4, 2, false})
	runs(t, "grown to the last page", b, before...)
	is(t, "Grow", b.Grow(0), api.ErrNoMemory)
	refused(t, b, 3, api.ErrNoMemory)
	// What is there is taken, though all Commits would be refused.
	b.Refuse(0)
	alloc(t, b, 2, 5*4096)
	alloc(t, b, 1, 3*4096)
	alloc(t, b, 0, 2*4096)
	refused(t, b, 0, api.ErrNoMemory)
}

func TestFreeAndOrderRefuse(t *testing.T) {
	b := fresh(t, 40)
	is(t, "Grow", b.Grow(4), api.OK)
	alloc(t, b, 2, 4096)
	alloc(t, b, 0, 5*4096)
	before := []Run{{0, 2, true}, {4, 0, true}, {5, 0, false}, {6, 1, false}, {8, 3, false}}
	for _, at := range []int{math.MinInt, math.MinInt + 4096, -4096, -1, 0, 1, 256, 4095, 4097, 2 * 4096, 3 * 4096, 4 * 4096, 5*4096 + 1, 6*4096 - 1, 6 * 4096, 7 * 4096, 9 * 4096, 16 * 4096, 17 * 4096, 39 * 4096, 40 * 4096, 41 * 4096, api.Most, math.MaxInt - 4095, math.MaxInt} {
		is(t, "Free", b.Free(at), api.ErrNone)
		if order, e := b.Order(at); order != 0 || e != api.ErrNone {
			t.Errorf("Order(%d): %d, error %d", at, order, e)
		}
	}
	runs(t, "refused", b, before...)
	for _, r := range before[:2] {
		if order, e := b.Order((1 + r.At) * 4096); order != r.Order || e != api.OK {
			t.Errorf("Order: %d, error %d, wanted %d", order, e, r.Order)
		}
	}
	is(t, "Free", b.Free(4096), api.OK)
	is(t, "Free again", b.Free(4096), api.ErrNone)
	if order, e := b.Order(4096); order != 0 || e != api.ErrNone {
		t.Errorf("Order: %d, error %d", order, e)
	}
}

func TestShrink(t *testing.T) {
	shrinks := func(b *Buddy, wanted int) {
		t.Helper()
		if n := b.Shrink(); n != wanted {
			t.Fatalf("Shrink: %d, wanted %d", n, wanted)
		}
	}
	b := fresh(t, 40)
	is(t, "Grow", b.Grow(3), api.OK)
	alloc(t, b, 0, 4096)
	alloc(t, b, 1, 3*4096)
	shrinks(b, 4)
	runs(t, "the last one", b, Run{0, 0, true}, Run{1, 0, false}, Run{2, 1, true})
	shrinks(b, 0)
	is(t, "Free", b.Free(3*4096), api.OK)
	shrinks(b, 3)
	runs(t, "more than one", b, Run{0, 0, true})
	is(t, "Free", b.Free(4096), api.OK)
	shrinks(b, 1)
	runs(t, "all", b)
	shrinks(b, 0)
	// What was there is forgotten: nothing is put together with it, nothing of it is taken.
	alloc(t, b, 0, 4096)
	runs(t, "grown again", b, Run{0, 0, true})
	is(t, "Free", b.Free(4096), api.OK)
	runs(t, "free again", b, Run{0, 0, false})
	is(t, "Free", b.Free(3*4096), api.ErrNone)
}

func TestPagesThatComeAgainAreNoughts(t *testing.T) {
	b := fresh(t, 9)
	alloc(t, b, 2, 4096)
	is(t, "Fill", b.Fill(4096, 4*4096, 'x'), api.OK)
	is(t, "Free", b.Free(4096), api.OK)
	if n := b.Shrink(); n != 4 {
		t.Fatalf("Shrink: %d", n)
	}
	alloc(t, b, 2, 4096)
	s, e := b.Bytes(4096+16, 4*4096-16)
	is(t, "Bytes", e, api.OK)
	if s != string(make([]byte, 4*4096-16)) {
		t.Error("they have bytes of another time")
	}
}

func TestRunsIsNewMemory(t *testing.T) {
	b := fresh(t, 9)
	alloc(t, b, 0, 4096)
	one, two := b.Runs(), b.Runs()
	one[0] = Run{}
	if !slices.Equal(two, []Run{{4096, 0, true}}) || !slices.Equal(b.Runs(), two) {
		t.Error("it has changed with another answer")
	}
}

func TestAGreatArena(t *testing.T) {
	b := fresh(t, api.MaxPages)
	next := 257
	for order := 10; order >= 0; order-- {
		for next+1<<order <= api.MaxPages {
			alloc(t, b, order, next*api.Page)
			next += 1 << order
		}
		refused(t, b, order, api.ErrNoMemory)
	}
	if b.Grown() != api.MaxPages-257 || b.Committed() != api.MaxPages {
		t.Errorf("grown to %d, %d committed", b.Grown(), b.Committed())
	}
	for _, r := range b.Runs() {
		is(t, "Free", b.Free(r.At), api.OK)
	}
	if n := b.Shrink(); n != api.MaxPages-257 || b.Committed() != 257 {
		t.Errorf("Shrink: %d, and %d are committed", n, b.Committed())
	}
}

func TestTheBuddyIsInTheArenaAlone(t *testing.T) {
	b := fresh(t, 40)
	alloc(t, b, 2, 4096)
	alloc(t, b, 0, 5*4096)
	is(t, "Free", b.Free(4096), api.OK)
	again, e := Open(b.Arena)
	is(t, "Open", e, api.OK)
	twin, e := Open(b.Clone())
	is(t, "Open", e, api.OK)
	before := []Run{{0, 2, false}, {4, 0, true}}
	runs(t, "opened anew", again, before...)
	alloc(t, again, 1, 4096)
	alloc(t, b, 1, 3*4096)
	is(t, "Grow", again.Grow(0), api.OK)
	both := []Run{{0, 1, true}, {2, 1, true}, {4, 0, true}, {5, 0, false}}
	runs(t, "here", b, both...)
	runs(t, "opened anew", again, both...)
	runs(t, "over a clone", twin, before...)
	alloc(t, twin, 2, 4096)
	alloc(t, twin, 0, 6*4096)
	runs(t, "here", b, both...)
}

// Nothing is promised of what is told then, but that each call ends.
func TestEachCallEndsWhateverStandsThere(t *testing.T) {
	for _, x := range []byte{1, 2, 3, 0x7f, 0x80, 0xff, 0x2b} {
		for from := range 40 {
			b := fresh(t, 40)
			alloc(t, b, 1, 4096)
			alloc(t, b, 2, 5*4096)
			b.Free(4096)
			b.Fill(8*from+8, 64, x)
			if again, e := Open(b.Arena); e == api.OK {
				again.Alloc(0)
				again.Alloc(2)
				again.Free(5 * 4096)
				again.Order(4096)
				again.Grow(3)
				again.Runs()
				again.Grown()
				again.Shrink()
			}
		}
	}
}
