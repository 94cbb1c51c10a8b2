package census

import (
	"math"
	"slices"
	"testing"

	"millpond/api"
	"millpond/buddy"
)

// noOrders: numbers that are no order.
var noOrders = []int{math.MinInt, math.MinInt + 1, -11, -2, -1, 11, 12, 32, 62, 63, 64, 65, 4096, math.MaxInt}

// alloc: a run is taken.
func alloc(t *testing.T, b *buddy.Buddy, order int) int {
	t.Helper()
	at, e := b.Alloc(order)
	is(t, "Alloc", e, api.OK)
	return at
}

// tells: are the pages these?
func tells(t *testing.T, b *buddy.Buddy, wanted ...uint8) {
	t.Helper()
	if got := States(b); !slices.Equal(got, wanted) {
		t.Errorf("States: %v, wanted %v", got, wanted)
	}
}

// largest: is the greatest order of a free run this one?
func largest(t *testing.T, b *buddy.Buddy, order int, some bool) {
	t.Helper()
	if got, ok := Largest(b); got != order || ok != some {
		t.Errorf("Largest: %d, %t, wanted %d, %t", got, ok, order, some)
	}
}

// can: would just the runs of these orders be given?
func can(t *testing.T, b *buddy.Buddy, orders ...int) {
	t.Helper()
	for order := range api.MaxOrder + 1 {
		if got, wanted := Can(b, order), slices.Contains(orders, order); got != wanted {
			t.Errorf("Can(%d): %t", order, got)
		}
	}
	for _, order := range noOrders {
		if Can(b, order) {
			t.Errorf("Can(%d), which is no order", order)
		}
	}
}

func TestConstants(t *testing.T) {
	if Gone != 0 || Own != 1 || Free != 2 || Taken != 3 {
		t.Errorf("they are %d, %d, %d, %d", Gone, Own, Free, Taken)
	}
}

func TestExample(t *testing.T) {
	b := fresh(t, 9)
	alloc(t, b, 0)
	tells(t, b, Own, Taken, Gone, Gone, Gone, Gone, Gone, Gone, Gone)
	can(t, b, 0, 1, 2)
	largest(t, b, 0, false)
}

func TestOfANewOne(t *testing.T) {
	b := fresh(t, 5)
	tells(t, b, Own, Gone, Gone, Gone, Gone)
	can(t, b, 0, 1, 2)
	largest(t, b, 0, false)
	if !Right(b) {
		t.Error("it isn't right")
	}
}

func TestTakenAndFree(t *testing.T) {
	b := fresh(t, 10)
	one := alloc(t, b, 0)
	two := alloc(t, b, 2)
	tells(t, b, Own, Taken, Free, Free, Free, Taken, Taken, Taken, Taken, Gone)
	largest(t, b, 1, true)
	can(t, b, 0, 1)
	is(t, "Free", b.Free(two), api.OK)
	tells(t, b, Own, Taken, Free, Free, Free, Free, Free, Free, Free, Gone)
	largest(t, b, 2, true)
	can(t, b, 0, 1, 2)
	is(t, "Free", b.Free(one), api.OK)
	tells(t, b, Own, Free, Free, Free, Free, Free, Free, Free, Free, Gone)
	largest(t, b, 3, true)
	can(t, b, 0, 1, 2, 3)
	for range 4 {
		alloc(t, b, 1)
	}
	tells(t, b, Own, Taken, Taken, Taken, Taken, Taken, Taken, Taken, Taken, Gone)
	largest(t, b, 0, false)
	can(t, b, 0)
	alloc(t, b, 0)
	tells(t, b, Own, Taken, Taken, Taken, Taken, Taken, Taken, Taken, Taken, Taken)
	largest(t, b, 0, false)
	can(t, b)
	if !Right(b) {
		t.Error("it isn't right")
	}
}

// A single free page is of the order 0, which isn't the same as none.
func TestLargestOfOrderNought(t *testing.T) {
	b := fresh(t, 3)
	one := alloc(t, b, 0)
	alloc(t, b, 0)
	largest(t, b, 0, false)
	is(t, "Free", b.Free(one), api.OK)
	largest(t, b, 0, true)
	can(t, b, 0)
}

// A run begins at a multiple of its pages: so one of 4 has no room in the last 5 of 6.
func TestCanGrowToTheCapAndNoFurther(t *testing.T) {
	for _, c := range []struct{ given, taken, greatest int }{{1, 0, 0}, {2, 0, 1}, {3, 0, 1}, {4, 0, 2}, {6, 1, 1}, {7, 1, 1}, {8, 1, 2}, {8, 4, 2}, {8, 5, 1}, {8, 7, 0}, {1024, 0, 10}, {1023, 0, 9}, {2047, 1, 9}, {2048, 1, 10}, {3000, 0, 10}} {
		b := fresh(t, 1+c.given)
		for range c.taken {
			alloc(t, b, 0)
		}
		var orders []int
		for order := range c.greatest + 1 {
			orders = append(orders, order)
		}
		can(t, b, orders...)
	}
}

func TestCanOfAnArenaThatRefuses(t *testing.T) {
	b := fresh(t, 9)
	alloc(t, b, 0)
	b.Refuse(0)
	can(t, b, 0, 1, 2)
	if _, e := b.Alloc(2); e != api.ErrNoMemory {
		t.Errorf("it doesn't refuse any more: error %d", e)
	}
	can(t, b, 0, 1, 2)
	tells(t, b, Own, Taken, Gone, Gone, Gone, Gone, Gone, Gone, Gone)
	if !Right(b) {
		t.Error("it isn't right")
	}
}

func TestNil(t *testing.T) {
	if len(States(nil)) != 0 {
		t.Error("nil has states")
	}
	for what := range 256 {
		if n := Count(nil, uint8(what)); n != 0 {
			t.Errorf("Count(%d): %d", what, n)
		}
	}
	largest(t, nil, 0, false)
	can(t, nil)
	if Right(nil) {
		t.Error("nil is right")
	}
}

func TestCountOfWhatIsNoState(t *testing.T) {
	b := fresh(t, 9)
	alloc(t, b, 1)
	for what := Taken + 1; what != 0; what++ {
		if n := Count(b, what); n != 0 {
			t.Errorf("Count(%d): %d", what, n)
		}
	}
}

func TestStatesIsNewMemory(t *testing.T) {
	b := fresh(t, 3)
	one, two := States(b), States(b)
	one[0], one[2] = Taken, Taken
	if !slices.Equal(two, []uint8{Own, Gone, Gone}) {
		t.Error("it has changed with another answer")
	}
	tells(t, b, two...)
}

// all: what is asked of a buddy in all ways.
func all(b *buddy.Buddy) {
	States(b)
	Largest(b)
	Right(b)
	for what := range Taken + 2 {
		Count(b, what)
	}
	for order := -2; order < 14; order++ {
		Can(b, order)
	}
}

func TestWhatIsToldChangesNothing(t *testing.T) {
	b := fresh(t, 20)
	alloc(t, b, 2)
	one := alloc(t, b, 0)
	alloc(t, b, 1)
	is(t, "Free", b.Free(one), api.OK)
	is(t, "Grow", b.Grow(1), api.OK)
	bytes := func() string {
		s, e := b.Bytes(0, b.Committed()*api.Page)
		is(t, "Bytes", e, api.OK)
		return s
	}
	before, runs := bytes(), b.Runs()
	b.Refuse(1)
	all(b)
	if bytes() != before || !slices.Equal(b.Runs(), runs) {
		t.Error("the buddy has changed")
	}
	is(t, "Commit", b.Commit(18, 1), api.OK)
	is(t, "Commit", b.Commit(19, 1), api.ErrNoMemory)
}

func TestAGreatArena(t *testing.T) {
	b := fresh(t, api.MaxPages)
	is(t, "Grow", b.Grow(10), api.OK)
	is(t, "Grow", b.Grow(10), api.OK)
	// Two of the greatest order aren't put together.
	largest(t, b, 10, true)
	if !Right(b) {
		t.Error("it isn't right")
	}
	taken := 0
	for order := api.MaxOrder; order >= 0; order-- {
		for Can(b, order) {
			alloc(t, b, order)
			taken += 1 << order
			// Each answer goes through all runs, of which there are up to a thousand.
			if taken%(100<<order) == 0 && !Right(b) {
				t.Fatal("it isn't right")
			}
		}
	}
	if taken != api.MaxPages-257 || !Right(b) {
		t.Errorf("%d pages are taken", taken)
	}
	can(t, b)
	largest(t, b, 0, false)
	for what, wanted := range []int{0, 257, 0, api.MaxPages - 257} {
		if n := Count(b, uint8(what)); n != wanted {
			t.Errorf("Count(%d): %d, wanted %d", what, n, wanted)
		}
	}
}

func TestNotRightOfOtherPages(t *testing.T) {
	for page := range 12 {
		b := fresh(t, 12)
		alloc(t, b, 0)
		alloc(t, b, 2)
		if !Right(b) {
			t.Fatal("it isn't right")
		}
		if b.Has(page) {
			is(t, "Decommit", b.Decommit(page, 1), api.OK)
		} else {
			is(t, "Commit", b.Commit(page, 1), api.OK)
		}
		if Right(b) {
			t.Errorf("it is right, though page %d isn't as it should be", page)
		}
		// As many pages as it should have, but not the right ones.
		if b.Has(page) {
			is(t, "Decommit", b.Decommit(5, 1), api.OK)
		} else {
			is(t, "Commit", b.Commit(11, 1), api.OK)
		}
		if Right(b) {
			t.Errorf("it is right, though page %d isn't as it should be, and another one", page)
		}
		if b.Has(page) == (States(b)[page] == Gone) && page < 9 {
			t.Errorf("page %d is %d", page, States(b)[page])
		}
	}
}

// faults: why a buddy isn't right, by the runs that it tells.
func faults(b *buddy.Buddy) []string {
	var all []string
	next, held := 0, b.Base()+b.Grown()
	runs := b.Runs()
	for i, r := range runs {
		first := r.At/api.Page - b.Base()
		if first != next {
			all = append(all, "row")
		}
		if first%(1<<r.Order) != 0 {
			all = append(all, "multiple")
		}
		if i > 0 && !r.Taken && !runs[i-1].Taken && runs[i-1].Order == r.Order && r.Order < api.MaxOrder && first/(1<<r.Order)%2 == 1 {
			all = append(all, "together")
		}
		next = first + 1<<r.Order
	}
	if next != b.Grown() {
		all = append(all, "end")
	}
	if n, _ := b.Pages().Count(0, min(held, b.Cap())); n != held || b.Committed() != held {
		all = append(all, "pages")
	}
	return all
}

// otherwise: each of the first bytes that the buddy has for itself is laid otherwise, in all ways (of many that are alike, one behind the other, two will do); Right is held against its words, by the runs that are told then. Which faults came alone.
func otherwise(t *testing.T, b *buddy.Buddy, bytes int) map[string]bool {
	t.Helper()
	alone := map[string]bool{}
	own, e := b.Bytes(0, bytes)
	is(t, "Bytes", e, api.OK)
	for at := range bytes {
		was := own[at]
		if at > 1 && own[at-1] == was && own[at-2] == was {
			continue
		}
		for x := range 256 {
			is(t, "Store", b.Store(at, 1, uint64(x)), api.OK)
			wrong := faults(b)
			if got := Right(b); got != (len(wrong) == 0) {
				t.Fatalf("byte %d is %d: Right: %t, but %v", at, x, got, wrong)
			}
			if len(wrong) == 1 {
				alone[wrong[0]] = true
			}
		}
		all(b)
		is(t, "Store", b.Store(at, 1, uint64(was)), api.OK)
	}
	if !Right(b) {
		t.Error("it isn't right any more")
	}
	return alone
}

func TestRightIsAsTheRunsAre(t *testing.T) {
	b := fresh(t, 9)
	for range 3 {
		alloc(t, b, 0)
	}
	is(t, "Free", b.Free(2*api.Page), api.OK)
	is(t, "Grow", b.Grow(1), api.OK)
	alone := otherwise(t, b, 256+9)
	// That the row is broken never comes alone: of two runs that lie over one another one isn't at a multiple of its pages.
	for _, fault := range []string{"multiple", "together", "end"} {
		if !alone[fault] {
			t.Errorf("none was wrong for this alone: %s", fault)
		}
	}
}

func TestRightOfTheGreatestOrders(t *testing.T) {
	b := fresh(t, 3500)
	one := alloc(t, b, 9)
	alloc(t, b, 9)
	is(t, "Free", b.Free(one), api.OK)
	is(t, "Grow", b.Grow(10), api.OK)
	is(t, "Grow", b.Grow(10), api.OK)
	if alone := otherwise(t, b, 256+3*1024); !alone["together"] {
		t.Error("two of order 9 were never side by side")
	}
}

// Nothing is promised of what is told then, but that each call ends.
func TestEachCallEndsWhateverStandsThere(t *testing.T) {
	for _, x := range []byte{1, 2, 3, 0x7f, 0x80, 0xff, 0x2b} {
		for from := range 40 {
			b := fresh(t, 40)
			alloc(t, b, 1)
			alloc(t, b, 2)
			b.Free(api.Page)
			b.Fill(8*from, 64, x)
			all(b)
			b.Decommit(0, 1)
			all(b)
		}
	}
}
