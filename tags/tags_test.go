package tags

import (
	"math"
	"testing"

	"millpond/api"
	"millpond/arena"
	"millpond/view"
)

// far: numbers that are no page of any table here.
var far = []int{math.MinInt, math.MinInt + 1, -api.Page, -2, -1, 5000, api.MaxPages, api.Most, math.MaxInt - 1023, math.MaxInt - 1, math.MaxInt}

// is: a test ends, if an error is another one than was wanted.
func is(t *testing.T, what string, got, wanted api.Errno) {
	t.Helper()
	if got != wanted {
		t.Fatalf("%s: error %d, wanted %d", what, got, wanted)
	}
}

// table: one of so many pages, over noughts; from an address on so that it has some in a page ahead, and the others behind.
func table(t *testing.T, pages int) (*arena.Arena, Table) {
	t.Helper()
	a := arena.New(4)
	is(t, "Commit", a.Commit(0, 4), api.OK)
	v, e := view.Of(a, 4096-min(pages/2, 96), pages)
	is(t, "view.Of", e, api.OK)
	return a, Open(v)
}

// same: does a table tell these tags?
func same(t *testing.T, what string, b Table, wanted []Tag) {
	t.Helper()
	if b.Len() != len(wanted) {
		t.Fatalf("%s: of %d pages, wanted %d", what, b.Len(), len(wanted))
	}
	for i, tag := range wanted {
		if got, e := b.Get(i); e != api.OK || got != tag {
			t.Fatalf("%s: page %d is %v, wanted %v, error %d", what, i, got, tag, e)
		}
	}
}

// lay: as Lay does, of tags alone.
func lay(tags []Tag, i, order int, state uint8) {
	for k := range 1 << order {
		tags[i+k] = Tag{State: Inside}
		if state == None {
			tags[i+k] = Tag{}
		}
	}
	if state != None {
		tags[i] = Tag{state, uint8(order)}
	}
}

// run: as Run answers, of tags alone.
func run(tags []Tag, i int) (int, Tag, api.Errno) {
	for first := i; first >= 0; first-- {
		g := tags[first]
		if g.State == Inside {
			continue
		}
		if g.State != None && first+1<<g.Order > i {
			return first, g, api.OK
		}
		break
	}
	return 0, Tag{}, api.ErrNone
}

// runsAre: does Run answer of each page what it should?
func runsAre(t *testing.T, what string, b Table, tags []Tag) {
	t.Helper()
	for i := range tags {
		at, g, e := b.Run(i)
		first, tag, wanted := run(tags, i)
		if at != first || g != tag || e != wanted {
			t.Fatalf("%s: Run(%d): %d, %v, error %d, wanted %d, %v, error %d", what, i, at, g, e, first, tag, wanted)
		}
	}
}

func TestStates(t *testing.T) {
	if None != 0 || Inside != 1 || Free != 2 || Taken != 3 {
		t.Errorf("the states are %d, %d, %d, %d", None, Inside, Free, Taken)
	}
}

func TestNewTable(t *testing.T) {
	for _, pages := range []int{0, 1, 8, 300, 5000} {
		_, b := table(t, pages)
		same(t, "over noughts", b, make([]Tag, pages))
		runsAre(t, "over noughts", b, make([]Tag, pages))
	}
}

func TestGetOutOfTheTable(t *testing.T) {
	_, b := table(t, 8)
	is(t, "Lay", b.Lay(0, 3, Taken), api.OK)
	for _, i := range append(far, 8, 9) {
		g, e := b.Get(i)
		at, h, f := b.Run(i)
		if g != (Tag{}) || e != api.ErrRange || at != 0 || h != (Tag{}) || f != api.ErrRange {
			t.Errorf("page %d: %v, error %d; Run: %d, %v, error %d", i, g, e, at, h, f)
		}
	}
}

func TestLayEachOrderAndState(t *testing.T) {
	for order := range api.MaxOrder + 1 {
		for _, state := range []uint8{None, Free, Taken} {
			for _, i := range []int{0, 1, 7, 1500 - 1<<order} {
				_, b := table(t, 1500)
				wanted := make([]Tag, 1500)
				is(t, "Lay", b.Lay(i, order, state), api.OK)
				lay(wanted, i, order, state)
				same(t, "laid", b, wanted)
				runsAre(t, "laid", b, wanted)
			}
		}
	}
}

func TestLayNoneOverARun(t *testing.T) {
	_, b := table(t, 40)
	wanted := make([]Tag, 40)
	for _, c := range []struct {
		at, order int
		state     uint8
	}{{4, 4, Taken}, {8, 2, None}, {0, 5, Free}, {0, 5, None}} {
		is(t, "Lay", b.Lay(c.at, c.order, c.state), api.OK)
		lay(wanted, c.at, c.order, c.state)
		same(t, "laid", b, wanted)
		runsAre(t, "laid", b, wanted)
	}
}

func TestLayOneOverAnother(t *testing.T) {
	_, b := table(t, 200)
	wanted := make([]Tag, 200)
	// Each step's numbers follow from the one's ahead: all orders up to 5, at places that fit no grid.
	x := 7
	for step := range 400 {
		x = (x*1103515245 + 12345) % (1 << 31)
		order, state := x/64%6, []uint8{Free, Taken, None, Taken}[x/1024%4]
		i := x / 8192 % (201 - 1<<order)
		is(t, "Lay", b.Lay(i, order, state), api.OK)
		lay(wanted, i, order, state)
		if step%10 == 9 {
			same(t, "laid", b, wanted)
			runsAre(t, "laid", b, wanted)
		}
	}
}

func TestLayChangesNothingBesideTheRun(t *testing.T) {
	a := arena.New(3)
	is(t, "Commit", a.Commit(0, 3), api.OK)
	is(t, "Fill", a.Fill(0, 3*api.Page, 'x'), api.OK)
	v, e := view.Of(a, 4090, 16)
	is(t, "view.Of", e, api.OK)
	b := Open(v)
	is(t, "Fill", b.Fill(0, 16, 0), api.OK)
	is(t, "Lay", b.Lay(0, 4, Free), api.OK)
	is(t, "Lay", b.Lay(8, 3, Taken), api.OK)
	is(t, "Lay", b.Lay(4, 2, None), api.OK)
	for at := range 3 * api.Page {
		x, _ := a.Load(at, 1)
		if at < 4090 && x != 'x' || at >= 4106 && x != 'x' {
			t.Fatalf("the byte %d is %d", at, x)
		}
	}
	for _, i := range []int{4, 5, 6, 7} {
		if x, _ := b.Load(i, 1); x != 0 {
			t.Errorf("the tag None is the byte %d", x)
		}
	}
}

func TestLayRefuses(t *testing.T) {
	_, b := table(t, 8)
	wanted := make([]Tag, 8)
	is(t, "Lay", b.Lay(2, 1, Taken), api.OK)
	lay(wanted, 2, 1, Taken)
	for _, order := range append(far, 11, 12, 63, 64) {
		is(t, "Lay of no order", b.Lay(0, order, Free), api.ErrArg)
		is(t, "Lay of no order out of the table", b.Lay(-1, order, None), api.ErrArg)
	}
	for _, state := range []uint8{Inside, 4, 5, 128, 254, 255} {
		is(t, "Lay of no state", b.Lay(0, 0, state), api.ErrArg)
		is(t, "Lay of no state out of the table", b.Lay(8, 10, state), api.ErrArg)
	}
	for _, state := range []uint8{None, Free, Taken} {
		for order := range api.MaxOrder + 1 {
			for _, i := range append(far, 8, 9, 9-1<<order) {
				is(t, "Lay out of the table", b.Lay(i, order, state), api.ErrRange)
			}
		}
	}
	same(t, "refused", b, wanted)
}

func TestRunExample(t *testing.T) {
	_, b := table(t, 8)
	is(t, "Lay", b.Lay(2, 1, Taken), api.OK)
	for _, i := range []int{2, 3} {
		if at, g, e := b.Run(i); at != 2 || g != (Tag{Taken, 1}) || e != api.OK {
			t.Errorf("Run(%d): %d, %v, error %d", i, at, g, e)
		}
	}
	for _, i := range []int{0, 1, 4, 7} {
		if at, g, e := b.Run(i); at != 0 || g != (Tag{}) || e != api.ErrNone {
			t.Errorf("Run(%d): %d, %v, error %d", i, at, g, e)
		}
	}
}

func TestRunOfPagesThatLostTheirFirstOne(t *testing.T) {
	_, b := table(t, 16)
	none := func(what string, i int) {
		t.Helper()
		if at, g, e := b.Run(i); at != 0 || g != (Tag{}) || e != api.ErrNone {
			t.Errorf("%s: Run(%d): %d, %v, error %d", what, i, at, g, e)
		}
	}
	is(t, "Lay", b.Lay(4, 3, Taken), api.OK)
	is(t, "Lay", b.Lay(5, 0, Free), api.OK)
	none("behind a lesser run", 6)
	is(t, "Lay", b.Lay(4, 1, Free), api.OK)
	none("behind a lesser run", 6)
	none("behind a lesser run", 11)
	is(t, "Lay", b.Lay(4, 1, None), api.OK)
	none("behind none", 6)
	// All pages but the first one are inside a run, of which the table has no first page.
	v, e := b.Part(6, 6)
	is(t, "Part", e, api.OK)
	if at, g, e := Open(v).Run(5); at != 0 || g != (Tag{}) || e != api.ErrNone {
		t.Errorf("of a part without the run's first page: %d, %v, error %d", at, g, e)
	}
}

func TestBytesThatAreNotThereAnyMore(t *testing.T) {
	a := arena.New(3)
	is(t, "Commit", a.Commit(0, 3), api.OK)
	v, e := view.Of(a, 4096-8, 4096+16)
	is(t, "view.Of", e, api.OK)
	b := Open(v)
	is(t, "Lay", b.Lay(4, 10, Taken), api.OK)
	is(t, "Lay", b.Lay(4102, 2, Taken), api.OK)
	is(t, "Lay", b.Lay(0, 2, Free), api.OK)
	is(t, "Decommit", a.Decommit(1, 1), api.OK)
	for _, i := range []int{8, 100, 4103} {
		g, e := b.Get(i)
		at, h, f := b.Run(i)
		if g != (Tag{}) || e != api.ErrRange || at != 0 || h != (Tag{}) || f != api.ErrRange {
			t.Errorf("page %d: %v, error %d; Run: %d, %v, error %d", i, g, e, at, h, f)
		}
	}
	is(t, "Lay there", b.Lay(8, 0, Free), api.ErrRange)
	is(t, "Lay, half of it there", b.Lay(4, 3, None), api.ErrRange)
	is(t, "Lay, half of it there", b.Lay(4102, 3, Free), api.ErrRange)
	if at, g, e := b.Run(7); at != 4 || g != (Tag{Taken, 10}) || e != api.OK {
		t.Errorf("of a page that is there: %d, %v, error %d", at, g, e)
	}
	// Their tags are Inside, and what is ahead of them isn't there.
	if at, g, e := b.Run(4104); at != 0 || g != (Tag{}) || e != api.ErrNone {
		t.Errorf("of a run whose first page isn't there: %d, %v, error %d", at, g, e)
	}
	is(t, "Lay", b.Lay(4104, 1, Free), api.OK)
	is(t, "Lay", b.Lay(4, 2, None), api.OK)
}

func TestZeroTable(t *testing.T) {
	for _, b := range []Table{{}, Open(view.View{})} {
		if b.Len() != 0 {
			t.Errorf("of %d pages", b.Len())
		}
		for _, i := range append(far, 0, 1) {
			g, e := b.Get(i)
			at, h, f := b.Run(i)
			if g != (Tag{}) || e != api.ErrNil || at != 0 || h != (Tag{}) || f != api.ErrNil {
				t.Errorf("page %d: %v, error %d; Run: %d, %v, error %d", i, g, e, at, h, f)
			}
			for _, order := range []int{-1, 0, 10, 11} {
				for _, state := range []uint8{None, Inside, Taken, 4} {
					is(t, "Lay", b.Lay(i, order, state), api.ErrNil)
				}
			}
		}
	}
}

func TestTableIsInTheArenaAlone(t *testing.T) {
	a, b := table(t, 64)
	wanted := make([]Tag, 64)
	for _, c := range []struct {
		at, order int
		state     uint8
	}{{0, 0, Taken}, {1, 0, Free}, {2, 1, Free}, {8, 3, Taken}, {32, 5, Free}} {
		is(t, "Lay", b.Lay(c.at, c.order, c.state), api.OK)
		lay(wanted, c.at, c.order, c.state)
	}
	v, e := view.Of(a.Clone(), b.At(), 64)
	is(t, "view.Of", e, api.OK)
	again := Open(b.View)
	is(t, "Lay", again.Lay(16, 4, Taken), api.OK)
	same(t, "over a clone", Open(v), wanted)
	runsAre(t, "over a clone", Open(v), wanted)
	lay(wanted, 16, 4, Taken)
	same(t, "opened ahead", b, wanted)
	same(t, "opened anew", again, wanted)
	runsAre(t, "opened anew", again, wanted)
}

func TestWhatIsToldIsATag(t *testing.T) {
	_, b := table(t, 1)
	for x := range 256 {
		is(t, "Store", b.Store(0, 1, uint64(x)), api.OK)
		g, e := b.Get(0)
		if e != api.OK || g.State > Taken || g.Order > api.MaxOrder || g.State < Free && g.Order > 0 {
			t.Errorf("the byte %d is %v, error %d", x, g, e)
		}
	}
}
